/-
  LetAny, part 3 of what it rests on: CallSame, CallSmall, Facts, CallTake, Open, Arg, CallArg, TrBase, TrView.
-/
import Derived.Test.YtjnbpgadgdjobaaS02
import Derived.Lib.Strings
import Derived.Test.YtjnbpgadgdjobaaS01
import Derived.ProofKit
import Derived.OpenShut
import Derived.SliceStrings
import Derived.Deep.Slices
import Derived.WideShapes
import Derived.Deep.Cut
import Derived.Deep.CutRange
import Derived.Deep.CutBlock
import Derived.Deep.LoopGhost
import Derived.Deep.QuietTactic
import Derived.BigQuiet
set_option linter.unusedVariables false
set_option linter.unusedSimpArgs false
set_option maxHeartbeats 64000000
namespace Go.Proofs.Ytjnbpgadgdjobaa
open Go.RowKit
open Go.Lib (hid)
section
theorem ctxt_beq (a b : List UInt8) : ((⟨a.toArray⟩ : ByteArray).toList == (⟨b.toArray⟩ : ByteArray).toList) = decide (a = b) := by
  rw [Lib.toList_data, Lib.toList_data]
  by_cases h : a = b
  · subst h; simp
  · simp [h]

theorem equal_any (v u : Value) (l m : List UInt8) (w : World) (h1 : Sees w v l) (h2 : Sees w u m) :
    Calls Try.prog 72 #[v, u] w fun e w' => e = .returned (.bool (decide (l = m))) ∧ Fr (fun _ => False) w w' := by
  have k1 : (convert 24 9 v).run Try.prog w = .ok (.string ⟨l.toArray⟩) w := h1.string _ _ _ Try.underlying24 Try.underlying5 Try.underlying9
  have k2 : (convert 24 9 u).run Try.prog w = .ok (.string ⟨m.toArray⟩) w := h2.string _ _ _ Try.underlying24 Try.underlying5 Try.underlying9
  have he := ctxt_beq l m
  have HE := Lib.hid he; clear he
  obtain ⟨s, hs⟩ : ∃ s : ByteArray, s = ⟨l.toArray⟩ := ⟨_, rfl⟩
  obtain ⟨r, hr⟩ : ∃ s : ByteArray, s = ⟨m.toArray⟩ := ⟨_, rfl⟩
  rw [← hs] at k1 HE
  rw [← hr] at k2 HE
  clear hs hr
  go_enter Try.func72, Try.ntmps72
  go_wp2_with fail
  go_ret
  rw [HE.out]
  exact ⟨rfl, Fr.refl _ _⟩

set_option maxRecDepth 100000 in
theorem csame_any (t n p t' n' p' : Int) (v u : Value) (l m : List UInt8) (w : World) (h1 : Sees w v l) (h2 : Sees w u m) :
    Calls Try.prog 44 #[cv t n p v, cv t' n' p' u] w fun e w' => e = .returned (.bool (decide (t = t' ∧ n = n' ∧ p = p' ∧ l = m))) ∧ Fr (fun _ => False) w w' := by
  unfold cv
  go_enter Try.func44, Try.ntmps44
  go_wp2_with fail
  have f1 : Fr (fun _ => False) w ((w.alloc (Obj.cells #[Value.int IntKind.u16 t', Value.int IntKind.u16 n', Value.int IntKind.i64 p', v] 41)).alloc (Obj.cells #[Value.int IntKind.u16 t', Value.int IntKind.u16 n', Value.int IntKind.i64 p', u] 41)) := ((Fr.refl _ _).alloc _).alloc _
  case isTrue =>
    refine (equal_any v u l m _ (h1.fr f1 (fun _ _ h => h)) (h2.fr f1 (fun _ _ h => h))).mono ?_
    rintro e w2 ⟨rfl, f2⟩
    have F2 := Lib.hid (f1.trans f2 (fun _ _ h => h))
    clear f1 f2
    go_wp2_with fail
    go_ret
    have e : decide (t = t' ∧ n = n' ∧ p = p' ∧ l = m) = decide (l = m) := by simp [*]
    rw [e]
    exact ⟨rfl, F2.out⟩
  all_goals
    go_ret
    refine ⟨?_, ((Fr.refl _ _).alloc _).alloc _⟩
    simp [*]

set_option maxRecDepth 100000 in
theorem alike_any (n p n' p' : Int) (v u : Value) (l m : List UInt8) (w : World) (h1 : Sees w v l) (h2 : Sees w u m) :
    Calls Try.prog 45 #[av n p v, av n' p' u] w fun e w' => e = .returned (.bool (decide (n = n' ∧ p = p' ∧ l = m))) ∧ Fr (fun _ => False) w w' := by
  unfold av
  go_enter Try.func45, Try.ntmps45
  go_wp2_with fail
  have f1 : Fr (fun _ => False) w ((w.alloc (Obj.cells #[Value.int IntKind.i64 n', Value.int IntKind.i64 p', v] 49)).alloc (Obj.cells #[Value.int IntKind.i64 n', Value.int IntKind.i64 p', u] 49)) := ((Fr.refl _ _).alloc _).alloc _
  case isTrue =>
    refine (equal_any v u l m _ (h1.fr f1 (fun _ _ h => h)) (h2.fr f1 (fun _ _ h => h))).mono ?_
    rintro e w2 ⟨rfl, f2⟩
    have F2 := Lib.hid (f1.trans f2 (fun _ _ h => h))
    clear f1 f2
    go_wp2_with fail
    go_ret
    have e : decide (n = n' ∧ p = p' ∧ l = m) = decide (l = m) := by simp [*]
    rw [e]
    exact ⟨rfl, F2.out⟩
  all_goals
    go_ret
    refine ⟨?_, ((Fr.refl _ _).alloc _).alloc _⟩
    simp [*]
end
section
theorem cst4 {w : World} {b : Nat} {x0 x1 x2 x3 y0 y1 y2 y3 : Value} {t : TypeId} (h : w.heap[b]? = some (.cells #[x0, x1, x2, x3] t (0, 0))) :
    ((((w.setCell ⟨b, 0, none⟩ y0).setCell ⟨b, 1, none⟩ y1).setCell ⟨b, 2, none⟩ y2).setCell ⟨b, 3, none⟩ y3).heap[b]? = some (.cells #[y0, y1, y2, y3] t (0, 0)) := by
  have h0 : (w.setCell ⟨b, 0, none⟩ y0).heap[b]? = some (.cells #[y0, x1, x2, x3] t (0, 0)) := by rw [heap_setCell_same w b 0 _ t y0 h]; rfl
  have h1 : ((w.setCell ⟨b, 0, none⟩ y0).setCell ⟨b, 1, none⟩ y1).heap[b]? = some (.cells #[y0, y1, x2, x3] t (0, 0)) := by rw [heap_setCell_same _ b 1 _ t y1 h0]; rfl
  have h2 : (((w.setCell ⟨b, 0, none⟩ y0).setCell ⟨b, 1, none⟩ y1).setCell ⟨b, 2, none⟩ y2).heap[b]? = some (.cells #[y0, y1, y2, x3] t (0, 0)) := by rw [heap_setCell_same _ b 2 _ t y2 h1]; rfl
  rw [heap_setCell_same _ b 3 _ t y3 h2]; rfl
theorem cst3 {w : World} {b : Nat} {x0 x1 x2 y0 y1 y2 : Value} {t : TypeId} (h : w.heap[b]? = some (.cells #[x0, x1, x2] t (0, 0))) :
    (((w.setCell ⟨b, 0, none⟩ y0).setCell ⟨b, 1, none⟩ y1).setCell ⟨b, 2, none⟩ y2).heap[b]? = some (.cells #[y0, y1, y2] t (0, 0)) := by
  have h0 : (w.setCell ⟨b, 0, none⟩ y0).heap[b]? = some (.cells #[y0, x1, x2] t (0, 0)) := by rw [heap_setCell_same w b 0 _ t y0 h]; rfl
  have h1 : ((w.setCell ⟨b, 0, none⟩ y0).setCell ⟨b, 1, none⟩ y1).heap[b]? = some (.cells #[y0, y1, x2] t (0, 0)) := by rw [heap_setCell_same _ b 1 _ t y1 h0]; rfl
  rw [heap_setCell_same _ b 2 _ t y2 h1]; rfl
theorem cfr4 {w : World} {b : Nat} (y0 y1 y2 y3 : Value) {S : Nat → Prop} {w0 : World} (f : Fr S w0 w) (hb : b < w0.heap.size → S b) :
    Fr S w0 ((((w.setCell ⟨b, 0, none⟩ y0).setCell ⟨b, 1, none⟩ y1).setCell ⟨b, 2, none⟩ y2).setCell ⟨b, 3, none⟩ y3) :=
  (((f.setCell (p := ⟨b, 0, none⟩) hb _).setCell (p := ⟨b, 1, none⟩) hb _).setCell (p := ⟨b, 2, none⟩) hb _).setCell (p := ⟨b, 3, none⟩) hb _
theorem cfr3 {w : World} {b : Nat} (y0 y1 y2 : Value) {S : Nat → Prop} {w0 : World} (f : Fr S w0 w) (hb : b < w0.heap.size → S b) :
    Fr S w0 (((w.setCell ⟨b, 0, none⟩ y0).setCell ⟨b, 1, none⟩ y1).setCell ⟨b, 2, none⟩ y2) :=
  ((f.setCell (p := ⟨b, 0, none⟩) hb _).setCell (p := ⟨b, 1, none⟩) hb _).setCell (p := ⟨b, 2, none⟩) hb _

/-- The laws' call, of small numbers. -/
theorem small_any (t n p : Int) (a : Option Addr) (k c : Nat) (w : World) (hp0 : 0 ≤ p) (hp1 : p ≤ 65535) :
    Calls Try.prog 22 #[.agg #[.int .u16 t, .int .u16 n, .int .u16 p, .slice a k c]] w fun e w' => e = .returned (cv t n p (.slice a k c)) ∧ Fr (fun _ => False) w w' := by
  have hq := new_two w (Obj.cells #[.int .u16 t, .int .u16 n, .int .u16 p, .slice a k c] 26 (0, 0)) (Obj.cells #[.int .u16 t, .int .u16 n, .int .i64 p, .slice a k c] 41 (0, 0))
  have hf : Fr (fun _ => False) w ((w.alloc (Obj.cells #[.int .u16 t, .int .u16 n, .int .u16 p, .slice a k c] 26 (0, 0))).alloc (Obj.cells #[.int .u16 t, .int .u16 n, .int .i64 p, .slice a k c] 41 (0, 0))) := ((Fr.refl _ _).alloc _).alloc _
  have HQ := Lib.hid hq; clear hq
  have HF := Lib.hid hf; clear hf
  go_enter Try.func22, Try.ntmps22
  go_wp2_with fail
  refine bodyPost_ret (results_cell_row rfl _ _ (w.heap.size + 1) 41 _ _ _ rfl HQ.out Try.underlying41 rfl (by kernel_rfl)) rfl ?_
  exact ⟨rfl, HF.out⟩

/-- The laws' answer, of small numbers. -/
theorem reply_any (n p : Int) (a : Option Addr) (k c : Nat) (w : World) (hn0 : 0 ≤ n) (hn1 : n ≤ 65535) (hp0 : 0 ≤ p) (hp1 : p ≤ 65535) :
    Calls Try.prog 23 #[.agg #[.int .u16 n, .int .u16 p, .slice a k c]] w fun e w' => e = .returned (av n p (.slice a k c)) ∧ Fr (fun _ => False) w w' := by
  have hq := new_two w (Obj.cells #[.int .u16 n, .int .u16 p, .slice a k c] 30 (0, 0)) (Obj.cells #[.int .i64 n, .int .i64 p, .slice a k c] 49 (0, 0))
  have hf : Fr (fun _ => False) w ((w.alloc (Obj.cells #[.int .u16 n, .int .u16 p, .slice a k c] 30 (0, 0))).alloc (Obj.cells #[.int .i64 n, .int .i64 p, .slice a k c] 49 (0, 0))) := ((Fr.refl _ _).alloc _).alloc _
  have HQ := Lib.hid hq; clear hq
  have HF := Lib.hid hf; clear hf
  go_enter Try.func23, Try.ntmps23
  go_wp2_with fail
  refine bodyPost_ret (results_cell_row rfl _ _ (w.heap.size + 1) 49 _ _ _ rfl HQ.out Try.underlying49 rfl (by kernel_rfl)) rfl ?_
  exact ⟨rfl, HF.out⟩
end
section
theorem nextS_two (l : List UInt8) (e : Int) (k : Nat) (hc : e ≠ 0 → l = []) :
    ((nextS (l, e) k).2.2 = 0 ∧ e = 0 ∧ k ≤ l.length ∧ (nextS (l, e) k).1 = l.take k ∧ (nextS (l, e) k).2.1 = l.drop k) ∨
    ((nextS (l, e) k).2.2 ≠ 0 ∧ (nextS (l, e) k).2.1 = [] ∧ (nextS (l, e) k).1 = [] ∧ (e ≠ 0 → (nextS (l, e) k).2.2 = e)) := by
  unfold nextS failS
  by_cases he : e = 0
  · subst he
    by_cases hk : l.length < k
    · right; simp [hk]
    · left; simp [hk]; omega
  · have hl := hc he
    subst hl
    right
    by_cases hk : (0 : Nat) < k
    · simp [hk, he]
    · simp [hk, he]

theorem numS_two (l : List UInt8) (e : Int) (k : Nat) (hc : e ≠ 0 → l = []) :
    ((numS (l, e) k).2.2 = 0 ∧ e = 0 ∧ k ≤ l.length ∧ (numS (l, e) k).1 = beNum (l.take k) ∧ (numS (l, e) k).2.1 = l.drop k) ∨
    ((numS (l, e) k).2.2 ≠ 0 ∧ (numS (l, e) k).2.1 = [] ∧ (numS (l, e) k).1 = 0 ∧ (e ≠ 0 → (numS (l, e) k).2.2 = e)) := by
  unfold numS
  rcases nextS_two l e k hc with ⟨h1, h2, h3, h4, h5⟩ | ⟨h1, h2, h3, h4⟩
  · left; exact ⟨h1, h2, h3, by rw [h4], h5⟩
  · right; exact ⟨h1, h2, by rw [h3]; rfl, h4⟩

theorem withinS_two (l : List UInt8) (e : Int) (most : Int) (hc : e ≠ 0 → l = []) :
    ((withinS (l, e) most).2.2 = 0 ∧ e = 0 ∧ 2 ≤ l.length ∧ (withinS (l, e) most).1 = beNum (l.take 2) ∧ ((withinS (l, e) most).1 : Int) ≤ most ∧ (withinS (l, e) most).2.1 = l.drop 2) ∨
    ((withinS (l, e) most).2.2 ≠ 0 ∧ (withinS (l, e) most).2.1 = [] ∧ (withinS (l, e) most).1 = 0 ∧ (e ≠ 0 → (withinS (l, e) most).2.2 = e)) := by
  unfold withinS
  rcases numS_two l e 2 hc with ⟨h1, h2, h3, h4, h5⟩ | ⟨h1, h2, h3, h4⟩
  · by_cases hm : most < ((numS (l, e) 2).1 : Int)
    · right
      rw [if_pos hm]
      subst h2
      unfold failS
      simp [h1]
    · left
      rw [if_neg hm]
      exact ⟨h1, h2, h3, h4, by omega, h5⟩
  · right
    by_cases hm : most < ((numS (l, e) 2).1 : Int)
    · rw [if_pos hm]
      unfold failS
      simp [h1, h2]
      exact h4
    · rw [if_neg hm]
      exact ⟨h1, h2, h3, h4⟩

theorem textS_two (l : List UInt8) (e : Int) (most : Int) (hc : e ≠ 0 → l = []) :
    ((textS (l, e) most).2.2 = 0 ∧ e = 0 ∧ l = txt (textS (l, e) most).1 ++ (textS (l, e) most).2.1 ∧ ((textS (l, e) most).1.length : Int) ≤ most ∧ (textS (l, e) most).1.length < 65536) ∨
    ((textS (l, e) most).2.2 ≠ 0 ∧ (textS (l, e) most).2.1 = [] ∧ (textS (l, e) most).1 = [] ∧ (e ≠ 0 → (textS (l, e) most).2.2 = e)) := by
  have hsm := withinS_small (l, e) most
  have ht : textS (l, e) most = (if (nextS ((withinS (l, e) most).2.1, (withinS (l, e) most).2.2) ((withinS (l, e) most).1 + (withinS (l, e) most).1 % 2)).2.2 ≠ 0 then ([], (nextS ((withinS (l, e) most).2.1, (withinS (l, e) most).2.2) ((withinS (l, e) most).1 + (withinS (l, e) most).1 % 2)).2) else if (withinS (l, e) most).1 % 2 = 1 ∧ (nextS ((withinS (l, e) most).2.1, (withinS (l, e) most).2.2) ((withinS (l, e) most).1 + (withinS (l, e) most).1 % 2)).1.getD (withinS (l, e) most).1 0 ≠ 0 then ([], failS (nextS ((withinS (l, e) most).2.1, (withinS (l, e) most).2.2) ((withinS (l, e) most).1 + (withinS (l, e) most).1 % 2)).2 4) else ((nextS ((withinS (l, e) most).2.1, (withinS (l, e) most).2.2) ((withinS (l, e) most).1 + (withinS (l, e) most).1 % 2)).1.take (withinS (l, e) most).1, (nextS ((withinS (l, e) most).2.1, (withinS (l, e) most).2.2) ((withinS (l, e) most).1 + (withinS (l, e) most).1 % 2)).2)) := rfl
  have hw := withinS_two l e most hc
  rw [ht]
  clear ht
  generalize withinS (l, e) most = p at *
  have hn := nextS_two p.2.1 p.2.2 (p.1 + p.1 % 2) (by
    intro h
    rcases hw with ⟨h1, _⟩ | ⟨_, h2, _⟩
    · exact absurd h1 h
    · exact h2)
  generalize nextS (p.2.1, p.2.2) (p.1 + p.1 % 2) = r at *
  rcases hn with ⟨n1, n2, n3, n4, n5⟩ | ⟨n1, n2, n3, n4⟩
  · rcases hw with ⟨w1, w2, w3, w4, w5, w6⟩ | ⟨w1, _⟩
    · by_cases hpad : p.1 % 2 = 1 ∧ r.1.getD p.1 0 ≠ 0
      · right
        rw [if_neg (by simpa using n1), if_pos hpad]
        unfold failS
        simp [n1, w2]
      · left
        rw [if_neg (by simpa using n1), if_neg hpad]
        have hlen : (r.1.take p.1).length = p.1 := by rw [n4]; simp; omega
        refine ⟨n1, w2, ?_, by rw [hlen]; exact w5, by rw [hlen]; exact hsm⟩
        show l = txt (r.1.take p.1) ++ r.2.1
        have e1 : l = l.take 2 ++ p.2.1 := by rw [w6, List.take_append_drop]
        have e2 : p.2.1 = r.1 ++ r.2.1 := by rw [n4, n5, List.take_append_drop]
        have e3 : be2 p.1 = l.take 2 := by rw [w4]; exact be2_beNum _ (by simp; omega)
        have e4 : r.1 = r.1.take p.1 ++ (if p.1 % 2 = 1 then [0] else []) := by
          have hr : r.1.length = p.1 + p.1 % 2 := by rw [n4]; simp; omega
          by_cases ho : p.1 % 2 = 1
          · rw [if_pos ho]
            have hz : r.1.getD p.1 0 = 0 := by
              by_cases hz : r.1.getD p.1 0 = 0
              · exact hz
              · exact absurd ⟨ho, hz⟩ hpad
            have hlt : p.1 < r.1.length := by omega
            have e5 : r.1.drop p.1 = [0] := by
              rw [List.drop_eq_getElem_cons hlt, List.drop_eq_nil_of_le (by omega)]
              simp [List.getD, hlt] at hz
              rw [hz]
            conv => lhs; rw [← List.take_append_drop p.1 r.1, e5]
          · rw [if_neg ho, List.append_nil, List.take_of_length_le (by omega)]
        unfold txt
        rw [hlen, e3, List.append_assoc, List.append_assoc]
        conv => lhs; rw [e1, e2]
        conv => lhs; rw [e4]
        rw [List.append_assoc]
    · exact absurd n2 w1
  · right
    rw [if_pos n1]
    refine ⟨n1, n2, rfl, ?_⟩
    intro he
    rcases hw with ⟨_, w2, _⟩ | ⟨w1, _, _, w4⟩
    · exact absurd w2 he
    · show r.2.2 = e
      rw [n4 w1, w4 he]
end
section
theorem cconv (w : World) (s : ByteArray) : ∃ cap w', (convert 9 24 (.string s)).run Try.prog w = .ok (.slice (some ⟨w.heap.size, 0, none⟩) s.size cap) w' ∧ Fr (fun _ => False) w w' ∧ Sees w' (.slice (some ⟨w.heap.size, 0, none⟩) s.size cap) s.data.toList ∧ w.heap.size < w'.heap.size :=
  ⟨_, _, run_bytes_of_string (P := Try.prog) w 9 24 5 s Try.underlying9 Try.underlying24 Try.underlying5, (Fr.refl _ _).drew.alloc _, sees_bytes w s 5, by rw [World.size_alloc]; exact Nat.lt_succ_self _⟩

theorem free4 {w : World} {b : Nat} {cs : Array Value} {t : TypeId} (h : w.heap[b]? = some (.cells cs t (0, 0))) (i : Nat) : w.frozen? ⟨b, i, none⟩ = false := by
  simp [World.frozen?, h]

/-- What a call, an answer reads as. -/
def takeS (st : List UInt8 × Int) : (Nat × Nat × Nat × List UInt8) × (List UInt8 × Int) :=
  (((numS st 2).1, (numS (numS st 2).2 2).1, (numS (numS (numS st 2).2 2).2 2).1, (textS (numS (numS (numS st 2).2 2).2 2).2 4000).1), (textS (numS (numS (numS st 2).2 2).2 2).2 4000).2)
def takeAS (st : List UInt8 × Int) : (Nat × Nat × List UInt8) × (List UInt8 × Int) :=
  (((numS st 2).1, (numS (numS st 2).2 2).1, (textS (numS (numS st 2).2 2).2 4000).1), (textS (numS (numS st 2).2 2).2 4000).2)

/-- The way of Take: block g0 is as it was, g1 holds what has been read. -/
structure Tk (T : TypeId) (g0 g1 : Nat) (z cs : Array Value) (b : Nat) (v : Value) (st : List UInt8 × Int) (w wk : World) : Prop where
  q0 : wk.heap[g0]? = some (.cells z T (0, 0))
  q1 : wk.heap[g1]? = some (.cells cs T (0, 0))
  rd : ∃ vk, Rd wk b vk st.1 st.2 ∧ (vk.ownBlock = v.ownBlock ∨ vk.ownBlock = none)
  fr : Fr (fun k => k = b) w wk
  n0 : g0 ≠ b
  n1 : g1 ≠ b
  n01 : g0 ≠ g1
  v1 : v.ownBlock ≠ some g1
  o1 : w.heap.size ≤ g1

theorem Tk.call {T : TypeId} {g0 g1 : Nat} {z cs : Array Value} {b : Nat} {v vk : Value} {st st' : List UInt8 × Int} {w wk w' : World} (h : Tk T g0 g1 z cs b v st w wk) (hv : vk.ownBlock = v.ownBlock ∨ vk.ownBlock = none) (hR : Reads b vk st'.1 st'.2 wk w') : Tk T g0 g1 z cs b v st' w w' := by
  obtain ⟨v2, R2, f2, o2⟩ := hR
  refine ⟨crow_kept h.q0 f2 h.n0, crow_kept h.q1 f2 h.n1, ⟨v2, R2, ?_⟩, h.fr.trans f2 (fun _ _ e => e), h.n0, h.n1, h.n01, h.v1, h.o1⟩
  rcases o2 with e | e
  · rw [e]; exact hv
  · exact .inr e

theorem Tk.plain {T : TypeId} {g0 g1 : Nat} {z cs : Array Value} {b : Nat} {v : Value} {st : List UInt8 × Int} {w wk w' : World} (h : Tk T g0 g1 z cs b v st w wk) (f : Fr (fun _ => False) wk w') : Tk T g0 g1 z cs b v st w w' := by
  obtain ⟨vk, R, o⟩ := h.rd
  exact ⟨crow_kept h.q0 f (fun h => h), crow_kept h.q1 f (fun h => h), ⟨vk, R.fr f (fun h => h) (fun _ _ h => h), o⟩, h.fr.trans f (fun _ _ e => e.elim), h.n0, h.n1, h.n01, h.v1, h.o1⟩

theorem Tk.store {T : TypeId} {g0 g1 : Nat} {z cs : Array Value} {b : Nat} {v : Value} {st : List UInt8 × Int} {w wk : World} (h : Tk T g0 g1 z cs b v st w wk) (i : Nat) (y : Value) : Tk T g0 g1 z (cs.setIfInBounds i y) b v st w (wk.setCell ⟨g1, i, none⟩ y) := by
  obtain ⟨vk, R, o⟩ := h.rd
  have f : Fr (fun k => k = g1) wk (wk.setCell ⟨g1, i, none⟩ y) := (Fr.refl (fun k => k = g1) wk).setCell (p := ⟨g1, i, none⟩) (fun _ => rfl) y
  refine ⟨crow_kept h.q0 f h.n01, heap_setCell_same wk g1 i _ T y h.q1, ⟨vk, R.fr f (fun e => h.n1 e.symm) (fun k hk e => ?_), o⟩, h.fr.trans f (fun k hk e => ?_), h.n0, h.n1, h.n01, h.v1, h.o1⟩
  · subst e
    rcases o with o | o
    · exact h.v1 (o ▸ hk)
    · rw [o] at hk; cases hk
  · have := h.o1; omega

theorem Tk.done {T : TypeId} {g0 g1 : Nat} {z cs : Array Value} {b : Nat} {v : Value} {st : List UInt8 × Int} {w wk w' : World} (h : Tk T g0 g1 z cs b v st w wk) (hv : v.ownBlock ≠ some g0) (ho : w.heap.size ≤ g0) (f : Fr (fun k => k = g0) wk w') : Reads b v st.1 st.2 w w' := by
  obtain ⟨vk, R, o⟩ := h.rd
  refine ⟨vk, R.fr f (fun e => h.n0 e.symm) (fun k hk e => ?_), h.fr.trans f (fun k hk e => ?_), o⟩
  · subst e
    rcases o with o | o
    · exact hv (o ▸ hk)
    · rw [o] at hk; cases hk
  · omega

theorem Tk.out {T : TypeId} {g0 g1 : Nat} {z cs : Array Value} {b : Nat} {v : Value} {st : List UInt8 × Int} {w wk : World} (h : Tk T g0 g1 z cs b v st w wk) : Reads b v st.1 st.2 w wk := by
  obtain ⟨vk, R, o⟩ := h.rd
  exact ⟨vk, R, h.fr, o⟩

set_option maxRecDepth 100000 in
theorem take_any (b : Nat) (v : Value) (l : List UInt8) (x : Int) (w : World) (hR : Rd w b v l x) :
    Calls Try.prog 63 #[.pointer (some ⟨b, 0, none⟩)] w fun e w' => ∃ u, e = .returned u ∧ Reads b v (takeS (l, x)).2.1 (takeS (l, x)).2.2 w w' ∧
      (((takeS (l, x)).2.2 = 0 ∧ ∃ v', u = cv (takeS (l, x)).1.1 (takeS (l, x)).1.2.1 (takeS (l, x)).1.2.2.1 v' ∧ Sees w' v' (takeS (l, x)).1.2.2.2 ∧ (∃ g, v'.ownBlock = some g ∧ w.heap.size ≤ g ∧ g < w'.heap.size)) ∨
       ((takeS (l, x)).2.2 ≠ 0 ∧ u = cv 0 0 0 (.slice none 0 0))) := by
  unfold cv
  have hbl := hR.lt
  have hvo := Lib.hid hR.old
  go_enter Try.func63, Try.ntmps63
  go_wp2_with fail
  have q1 := new_two w (Obj.cells #[.int .u16 0, .int .u16 0, .int .i64 0, .slice none 0 0] 41 (0, 0)) (Obj.cells #[.int .u16 0, .int .u16 0, .int .i64 0, .slice none 0 0] 41 (0, 0))
  have f1 : Fr (fun _ => False) w ((w.alloc (Obj.cells #[.int .u16 0, .int .u16 0, .int .i64 0, .slice none 0 0] 41 (0, 0))).alloc (Obj.cells #[.int .u16 0, .int .u16 0, .int .i64 0, .slice none 0 0] 41 (0, 0))) := ((Fr.refl _ _).alloc _).alloc _
  have q0 : ((w.alloc (Obj.cells #[.int .u16 0, .int .u16 0, .int .i64 0, .slice none 0 0] 41 (0, 0))).alloc (Obj.cells #[.int .u16 0, .int .u16 0, .int .i64 0, .slice none 0 0] 41 (0, 0))).heap[w.heap.size]? = some (Obj.cells #[.int .u16 0, .int .u16 0, .int .i64 0, .slice none 0 0] 41 (0, 0)) := by
    rw [Below.heap_alloc _ _ _ (by simp)]; exact heap_alloc_new w _
  generalize (w.alloc (Obj.cells #[.int .u16 0, .int .u16 0, .int .i64 0, .slice none 0 0] 41 (0, 0))).alloc (Obj.cells #[.int .u16 0, .int .u16 0, .int .i64 0, .slice none 0 0] 41 (0, 0)) = w1 at *
  generalize hg0 : w.heap.size = g0 at *
  generalize hg1 : g0 + 1 = g1 at *
  have k01 : g0 ≠ g1 := by omega
  have k10 : g1 ≠ g0 := by omega
  have kb0 : b ≠ g0 := by omega
  have kb1 : b ≠ g1 := by omega
  have Hg0 := Lib.hid hg0; clear hg0
  have Hg1 := Lib.hid hg1; clear hg1
  have R1 := hR.fr f1 (fun h => h) (fun _ _ h => h)
  have T1 : Tk 41 g0 g1 #[.int .u16 0, .int .u16 0, .int .i64 0, .slice none 0 0] #[.int .u16 0, .int .u16 0, .int .i64 0, .slice none 0 0] b v (l, x) w w1 := ⟨q0, q1, ⟨v, R1, .inl rfl⟩, f1.mono (fun _ _ h => h.elim), kb0.symm, kb1.symm, k01, fun e => by have := hvo.out _ e; have := Hg1.out; omega, by have := Hg0.out; have := Hg1.out; omega⟩
  clear q0 q1 f1
  refine (rword_any b v l x _ R1).mono ?_
  rintro e w2 ⟨rfl, h2⟩
  have T2 := T1.call (.inl rfl) h2
  obtain ⟨A, hA⟩ : ∃ A, A = numS (l, x) 2 := ⟨_, rfl⟩
  have s0 : (numS (l, x) 2).1 < 65536 := numS_small _ 2
  rw [← hA] at T2 s0 ⊢
  have HA := Lib.hid hA; clear hA
  clear h2 R1 T1
  have z2 := free4 T2.q1 0
  have y2 := crow T2.q1 0 _ rfl
  go_wp2_with fail
  have T3 := T2.store 0 (.int .u16 A.1)
  obtain ⟨v3, R3, o3⟩ := T3.rd
  refine (rword_any b v3 _ _ _ R3).mono ?_
  rintro e w4 ⟨rfl, h4⟩
  have T4 := T3.call o3 h4
  obtain ⟨B, hB⟩ : ∃ B, B = numS A.2 2 := ⟨_, rfl⟩
  rw [show numS (A.2.1, A.2.2) 2 = numS A.2 2 from rfl, ← hB] at T4 ⊢
  have HB := Lib.hid hB; clear hB
  clear h4 R3 T2 T3 o3
  have z4 := free4 T4.q1 1
  have y4 := crow T4.q1 1 _ rfl
  go_wp2_with fail
  have T5 := T4.store 1 (.int .u16 B.1)
  obtain ⟨v5, R5, o5⟩ := T5.rd
  refine (rword_any b v5 _ _ _ R5).mono ?_
  rintro e w6 ⟨rfl, h6⟩
  have T6 := T5.call o5 h6
  obtain ⟨C, hC⟩ : ∃ C, C = numS B.2 2 := ⟨_, rfl⟩
  have sC : C.1 < 65536 := by rw [hC]; exact numS_small _ 2
  rw [show numS (B.2.1, B.2.2) 2 = numS B.2 2 from rfl, ← hC] at T6 ⊢
  have HC := Lib.hid hC; clear hC
  clear h6 R5 T4 T5 o5
  have z6 := free4 T6.q1 2
  have y6 := crow T6.q1 2 _ rfl
  go_wp2_with fail
  have T7 := T6.store 2 (.int .i64 C.1)
  obtain ⟨v7, R7, o7⟩ := T7.rd
  refine (rtext_any b v7 _ _ 4000 _ R7).mono ?_
  rintro e w8 ⟨rfl, h8⟩
  have T8 := T7.call o7 h8
  obtain ⟨D, hD⟩ : ∃ D, D = textS C.2 4000 := ⟨_, rfl⟩
  rw [show textS (C.2.1, C.2.2) 4000 = textS C.2 4000 from rfl, ← hD] at T8 ⊢
  have HD := Lib.hid hD; clear hD
  clear h8 R7 T6 T7 o7
  obtain ⟨cap, w9, hcv, f9, hs9, hn9⟩ := cconv w8 ⟨D.1.toArray⟩
  have T9 := T8.plain f9
  have z9 := free4 T9.q1 3
  have y9 := crow T9.q1 3 _ rfl
  have hT : takeS (l, x) = ((A.1, B.1, C.1, D.1), D.2) := by unfold takeS; rw [← HA.out, ← HB.out, ← HC.out, ← HD.out]
  have HT := Lib.hid hT; clear hT
  have TT9 := Lib.hid T9; clear T9
  have hz8 : w.heap.size ≤ w8.heap.size := T8.fr.size
  have q8 := T8.q1
  clear T8
  go_wp2_with fail
  have T10 := TT9.out.store 3 (Value.slice (some ⟨w8.heap.size, 0, none⟩) D.1.length cap)
  have s10 : Fr (fun k => k = g1) w9 (w9.setCell ⟨g1, 3, none⟩ (Value.slice (some ⟨w8.heap.size, 0, none⟩) D.1.length cap)) := (Fr.refl (fun k => k = g1) w9).setCell (p := ⟨g1, 3, none⟩) (fun _ => rfl) _
  have hg8 : g1 < w8.heap.size := (Array.getElem?_eq_some_iff.1 q8).1
  have hn8 : g0 < w8.heap.size := by have := Hg1.out; omega
  have hs10 := hs9.fr s10 (fun k hk e => by simp [Value.ownBlock] at hk; omega)
  have hn10 : w8.heap.size < (w9.setCell ⟨g1, 3, none⟩ (Value.slice (some ⟨w8.heap.size, 0, none⟩) D.1.length cap)).heap.size := by rw [World.size_setCell]; exact hn9
  generalize w9.setCell ⟨g1, 3, none⟩ (Value.slice (some ⟨w8.heap.size, 0, none⟩) D.1.length cap) = wt at *
  clear s10 hs9 hn9 f9 hcv y9 z9
  obtain ⟨vt, Rt, ot⟩ := T10.rd
  refine (err_any b vt _ _ _ Rt).mono ?_
  rintro e wu ⟨rfl, rfl⟩
  have e0 := crow T10.q0 0 _ rfl
  have e1 := crow T10.q0 1 _ rfl
  have e2 := crow T10.q0 2 _ rfl
  have e3 := crow T10.q0 3 _ rfl
  have y0 := crow T10.q1 0 _ rfl
  have y1 := crow T10.q1 1 _ rfl
  have y2 := crow T10.q1 2 _ rfl
  have y3 := crow T10.q1 3 _ rfl
  have j0 := free4 T10.q0 0
  have j1 := free4 T10.q0 1
  have j2 := free4 T10.q0 2
  have j3 := free4 T10.q0 3
  have TX := Lib.hid T10; clear T10
  have HS := Lib.hid hs10; clear hs10
  have HN := Lib.hid hn10; clear hn10
  have HZ := Lib.hid hz8; clear hz8
  clear Rt ot hg8
  by_cases hd : D.2.2 = 0
  · have hd' : (D.2.2 != 0) = false := by simpa using hd
    have Hd := Lib.hid hd; clear hd
    go_wp2_with fail
    have Q := cst4 (y0 := .int .u16 A.1) (y1 := .int .u16 B.1) (y2 := .int .i64 C.1) (y3 := .slice (some ⟨w8.heap.size, 0, none⟩) D.1.length cap) TX.out.q0
    have F := cfr4 (b := g0) (.int .u16 A.1) (.int .u16 B.1) (.int .i64 C.1) (.slice (some ⟨w8.heap.size, 0, none⟩) D.1.length cap) (Fr.refl (fun k => k = g0) wt) (fun _ => rfl)
    have hvg : v.ownBlock ≠ some g0 := fun e => absurd (hvo.out _ e) (Nat.lt_irrefl _)
    have hRd := TX.out.done hvg (by rw [Hg0.out]; exact Nat.le_refl _) F
    have hS := HS.out.fr F (fun k hk e => by have := HN.out; have := HZ.out; have := Hg0.out; have := hn8; simp [Value.ownBlock] at hk; omega)
    have hZ := F.size
    refine bodyPost_ret (results_cell_row rfl _ _ g0 41 _ _ _ rfl Q Try.underlying41 rfl (by kernel_rfl)) rfl ?_
    rw [HT.out]
    refine ⟨_, rfl, hRd, .inl ⟨Hd.out, _, rfl, hS, _, rfl, HZ.out, ?_⟩⟩
    exact Nat.lt_of_lt_of_le HN.out hZ
  · have hd' : (D.2.2 != 0) = true := by simpa using hd
    have Hd := Lib.hid hd; clear hd
    go_wp2_with fail
    have Q := cst4 (y0 := .int .u16 0) (y1 := .int .u16 0) (y2 := .int .i64 0) (y3 := .slice none 0 0) TX.out.q0
    have F := cfr4 (b := g0) (.int .u16 0) (.int .u16 0) (.int .i64 0) (.slice none 0 0) (Fr.refl (fun k => k = g0) wt) (fun _ => rfl)
    have hvg : v.ownBlock ≠ some g0 := fun e => absurd (hvo.out _ e) (Nat.lt_irrefl _)
    have hRd := TX.out.done hvg (by rw [Hg0.out]; exact Nat.le_refl _) F
    refine bodyPost_ret (results_cell_row rfl _ _ g0 41 _ _ _ rfl Q Try.underlying41 rfl (by kernel_rfl)) rfl ?_
    rw [HT.out]
    exact ⟨_, rfl, hRd, .inr ⟨Hd.out, rfl⟩⟩

set_option maxRecDepth 100000 in
theorem takeA_any (b : Nat) (v : Value) (l : List UInt8) (x : Int) (w : World) (hR : Rd w b v l x) :
    Calls Try.prog 65 #[.pointer (some ⟨b, 0, none⟩)] w fun e w' => ∃ u, e = .returned u ∧ Reads b v (takeAS (l, x)).2.1 (takeAS (l, x)).2.2 w w' ∧
      (((takeAS (l, x)).2.2 = 0 ∧ ∃ v', u = av (takeAS (l, x)).1.1 (takeAS (l, x)).1.2.1 v' ∧ Sees w' v' (takeAS (l, x)).1.2.2 ∧ (∃ g, v'.ownBlock = some g ∧ w.heap.size ≤ g ∧ g < w'.heap.size)) ∨
       ((takeAS (l, x)).2.2 ≠ 0 ∧ u = av 0 0 (.slice none 0 0))) := by
  unfold av
  have hbl := hR.lt
  have hvo := Lib.hid hR.old
  go_enter Try.func65, Try.ntmps65
  go_wp2_with fail
  have q1 := new_two w (Obj.cells #[.int .i64 0, .int .i64 0, .slice none 0 0] 49 (0, 0)) (Obj.cells #[.int .i64 0, .int .i64 0, .slice none 0 0] 49 (0, 0))
  have f1 : Fr (fun _ => False) w ((w.alloc (Obj.cells #[.int .i64 0, .int .i64 0, .slice none 0 0] 49 (0, 0))).alloc (Obj.cells #[.int .i64 0, .int .i64 0, .slice none 0 0] 49 (0, 0))) := ((Fr.refl _ _).alloc _).alloc _
  have q0 : ((w.alloc (Obj.cells #[.int .i64 0, .int .i64 0, .slice none 0 0] 49 (0, 0))).alloc (Obj.cells #[.int .i64 0, .int .i64 0, .slice none 0 0] 49 (0, 0))).heap[w.heap.size]? = some (Obj.cells #[.int .i64 0, .int .i64 0, .slice none 0 0] 49 (0, 0)) := by
    rw [Below.heap_alloc _ _ _ (by simp)]; exact heap_alloc_new w _
  generalize (w.alloc (Obj.cells #[.int .i64 0, .int .i64 0, .slice none 0 0] 49 (0, 0))).alloc (Obj.cells #[.int .i64 0, .int .i64 0, .slice none 0 0] 49 (0, 0)) = w1 at *
  generalize hg0 : w.heap.size = g0 at *
  generalize hg1 : g0 + 1 = g1 at *
  have k01 : g0 ≠ g1 := by omega
  have k10 : g1 ≠ g0 := by omega
  have kb0 : b ≠ g0 := by omega
  have kb1 : b ≠ g1 := by omega
  have Hg0 := Lib.hid hg0; clear hg0
  have Hg1 := Lib.hid hg1; clear hg1
  have R1 := hR.fr f1 (fun h => h) (fun _ _ h => h)
  have T1 : Tk 49 g0 g1 #[.int .i64 0, .int .i64 0, .slice none 0 0] #[.int .i64 0, .int .i64 0, .slice none 0 0] b v (l, x) w w1 := ⟨q0, q1, ⟨v, R1, .inl rfl⟩, f1.mono (fun _ _ h => h.elim), kb0.symm, kb1.symm, k01, fun e => by have := hvo.out _ e; have := Hg1.out; omega, by have := Hg0.out; have := Hg1.out; omega⟩
  clear q0 q1 f1
  refine (rword_any b v l x _ R1).mono ?_
  rintro e w2 ⟨rfl, h2⟩
  have T2 := T1.call (.inl rfl) h2
  obtain ⟨A, hA⟩ : ∃ A, A = numS (l, x) 2 := ⟨_, rfl⟩
  have s0 : (numS (l, x) 2).1 < 65536 := numS_small _ 2
  rw [← hA] at T2 s0 ⊢
  have HA := Lib.hid hA; clear hA
  clear h2 R1 T1
  have z2 := free4 T2.q1 0
  have y2 := crow T2.q1 0 _ rfl
  go_wp2_with fail
  have T3 := T2.store 0 (.int .i64 A.1)
  obtain ⟨v3, R3, o3⟩ := T3.rd
  refine (rword_any b v3 _ _ _ R3).mono ?_
  rintro e w6 ⟨rfl, h6⟩
  have T6 := T3.call o3 h6
  obtain ⟨C, hC⟩ : ∃ C, C = numS A.2 2 := ⟨_, rfl⟩
  have sC : C.1 < 65536 := by rw [hC]; exact numS_small _ 2
  rw [show numS (A.2.1, A.2.2) 2 = numS A.2 2 from rfl, ← hC] at T6 ⊢
  have HC := Lib.hid hC; clear hC
  clear h6 R3 T2 T3 o3
  have z6 := free4 T6.q1 1
  have y6 := crow T6.q1 1 _ rfl
  go_wp2_with fail
  have T7 := T6.store 1 (.int .i64 C.1)
  obtain ⟨v7, R7, o7⟩ := T7.rd
  refine (rtext_any b v7 _ _ 4000 _ R7).mono ?_
  rintro e w8 ⟨rfl, h8⟩
  have T8 := T7.call o7 h8
  obtain ⟨D, hD⟩ : ∃ D, D = textS C.2 4000 := ⟨_, rfl⟩
  rw [show textS (C.2.1, C.2.2) 4000 = textS C.2 4000 from rfl, ← hD] at T8 ⊢
  have HD := Lib.hid hD; clear hD
  clear h8 R7 T6 T7 o7
  obtain ⟨cap, w9, hcv, f9, hs9, hn9⟩ := cconv w8 ⟨D.1.toArray⟩
  have T9 := T8.plain f9
  have z9 := free4 T9.q1 2
  have y9 := crow T9.q1 2 _ rfl
  have hT : takeAS (l, x) = ((A.1, C.1, D.1), D.2) := by unfold takeAS; rw [← HA.out, ← HC.out, ← HD.out]
  have HT := Lib.hid hT; clear hT
  have TT9 := Lib.hid T9; clear T9
  have hz8 : w.heap.size ≤ w8.heap.size := T8.fr.size
  have q8 := T8.q1
  clear T8
  go_wp2_with fail
  have T10 := TT9.out.store 2 (Value.slice (some ⟨w8.heap.size, 0, none⟩) D.1.length cap)
  have s10 : Fr (fun k => k = g1) w9 (w9.setCell ⟨g1, 2, none⟩ (Value.slice (some ⟨w8.heap.size, 0, none⟩) D.1.length cap)) := (Fr.refl (fun k => k = g1) w9).setCell (p := ⟨g1, 2, none⟩) (fun _ => rfl) _
  have hg8 : g1 < w8.heap.size := (Array.getElem?_eq_some_iff.1 q8).1
  have hn8 : g0 < w8.heap.size := by have := Hg1.out; omega
  have hs10 := hs9.fr s10 (fun k hk e => by simp [Value.ownBlock] at hk; omega)
  have hn10 : w8.heap.size < (w9.setCell ⟨g1, 2, none⟩ (Value.slice (some ⟨w8.heap.size, 0, none⟩) D.1.length cap)).heap.size := by rw [World.size_setCell]; exact hn9
  generalize w9.setCell ⟨g1, 2, none⟩ (Value.slice (some ⟨w8.heap.size, 0, none⟩) D.1.length cap) = wt at *
  clear s10 hs9 hn9 f9 hcv y9 z9
  obtain ⟨vt, Rt, ot⟩ := T10.rd
  refine (err_any b vt _ _ _ Rt).mono ?_
  rintro e wu ⟨rfl, rfl⟩
  have e0 := crow T10.q0 0 _ rfl
  have e1 := crow T10.q0 1 _ rfl
  have e2 := crow T10.q0 2 _ rfl
  have y0 := crow T10.q1 0 _ rfl
  have y1 := crow T10.q1 1 _ rfl
  have y2 := crow T10.q1 2 _ rfl
  have j0 := free4 T10.q0 0
  have j1 := free4 T10.q0 1
  have j2 := free4 T10.q0 2
  have TX := Lib.hid T10; clear T10
  have HS := Lib.hid hs10; clear hs10
  have HN := Lib.hid hn10; clear hn10
  have HZ := Lib.hid hz8; clear hz8
  clear Rt ot hg8
  by_cases hd : D.2.2 = 0
  · have hd' : (D.2.2 != 0) = false := by simpa using hd
    have Hd := Lib.hid hd; clear hd
    go_wp2_with fail
    have Q := cst3 (y0 := .int .i64 A.1) (y1 := .int .i64 C.1) (y2 := .slice (some ⟨w8.heap.size, 0, none⟩) D.1.length cap) TX.out.q0
    have F := cfr3 (b := g0) (.int .i64 A.1) (.int .i64 C.1) (.slice (some ⟨w8.heap.size, 0, none⟩) D.1.length cap) (Fr.refl (fun k => k = g0) wt) (fun _ => rfl)
    have hvg : v.ownBlock ≠ some g0 := fun e => absurd (hvo.out _ e) (Nat.lt_irrefl _)
    have hRd := TX.out.done hvg (by rw [Hg0.out]; exact Nat.le_refl _) F
    have hS := HS.out.fr F (fun k hk e => by have := HN.out; have := HZ.out; have := Hg0.out; have := hn8; simp [Value.ownBlock] at hk; omega)
    have hZ := F.size
    refine bodyPost_ret (results_cell_row rfl _ _ g0 49 _ _ _ rfl Q Try.underlying49 rfl (by kernel_rfl)) rfl ?_
    rw [HT.out]
    refine ⟨_, rfl, hRd, .inl ⟨Hd.out, _, rfl, hS, _, rfl, HZ.out, ?_⟩⟩
    exact Nat.lt_of_lt_of_le HN.out hZ
  · have hd' : (D.2.2 != 0) = true := by simpa using hd
    have Hd := Lib.hid hd; clear hd
    go_wp2_with fail
    have Q := cst3 (y0 := .int .i64 0) (y1 := .int .i64 0) (y2 := .slice none 0 0) TX.out.q0
    have F := cfr3 (b := g0) (.int .i64 0) (.int .i64 0) (.slice none 0 0) (Fr.refl (fun k => k = g0) wt) (fun _ => rfl)
    have hvg : v.ownBlock ≠ some g0 := fun e => absurd (hvo.out _ e) (Nat.lt_irrefl _)
    have hRd := TX.out.done hvg (by rw [Hg0.out]; exact Nat.le_refl _) F
    refine bodyPost_ret (results_cell_row rfl _ _ g0 49 _ _ _ rfl Q Try.underlying49 rfl (by kernel_rfl)) rfl ?_
    rw [HT.out]
    exact ⟨_, rfl, hRd, .inr ⟨Hd.out, rfl⟩⟩
end
section
open Go.RowKit Go.WideShapes Go.ChangeShapes

/-- The slice value v shows the values xs. -/
def SeesL (w : World) (v : Value) (xs : List Value) : Prop :=
  (xs = [] ∧ ∃ a c, v = .slice a 0 c) ∨
  ∃ g off cap, v = .slice (some ⟨g, off, none⟩) xs.length cap ∧ xs.length ≤ cap ∧ ∀ j u, xs[j]? = some u → w.cell? ⟨g, off + j, none⟩ = some u

theorem SeesL.old {w : World} {v : Value} {xs : List Value} (h : SeesL w v xs) : xs = [] ∨ ∀ k, v.ownBlock = some k → k < w.heap.size := by
  rcases h with ⟨h, _⟩ | ⟨g, off, cap, rfl, hle, hc⟩
  · exact .inl h
  · cases xs with
    | nil => exact .inl rfl
    | cons x xs =>
      right
      intro k hk
      simp [Value.ownBlock] at hk
      subst hk
      exact World.block_lt_of_cell? w _ (hc 0 x rfl)

theorem SeesL.fr0 {w w' : World} {v : Value} {xs : List Value} (h : SeesL w v xs) (hf : Fr (fun _ => False) w w') : SeesL w' v xs := by
  rcases h with h | ⟨g, off, cap, rfl, hle, hc⟩
  · exact .inl h
  · refine .inr ⟨g, off, cap, rfl, hle, fun j u hj => ?_⟩
    have h1 := hc j u hj
    rw [← h1]
    exact hf.cell (World.block_lt_of_cell? w _ h1) (fun h => h)

theorem addr_plain {w : World} {a : Addr} {u : Value} (h : w.cell? a = some u) : a = ⟨a.block, a.off, none⟩ := by
  obtain ⟨b, o, s⟩ := a
  cases s with
  | none => rfl
  | some s =>
    exfalso
    unfold World.cell? at h
    split at h
    · simp at h
    · cases h

theorem seesL_of {w : World} {a : Addr} {cap : Nat} {xs : List Value} (hle : xs.length ≤ cap) (hc : ∀ j u, xs[j]? = some u → w.cell? (a.add j) = some u) : SeesL w (.slice (some a) xs.length cap) xs := by
  cases xs with
  | nil => exact .inl ⟨rfl, _, _, rfl⟩
  | cons x xs =>
    have h0 := hc 0 x rfl
    have e0 : a.add 0 = a := by simp [Addr.add]
    rw [e0] at h0
    obtain ⟨b, o, s⟩ := a
    have e := addr_plain h0
    simp at e
    subst e
    refine .inr ⟨b, o, cap, rfl, hle, fun j u hj => ?_⟩
    have h1 := hc j u hj
    have e1 : (⟨b, o, none⟩ : Addr).add j = ⟨b, o + j, none⟩ := by unfold Addr.add; split <;> simp_all
    rw [e1] at h1
    exact h1

section
variable {P : Program} {H : Type} {enc : TypeId × Value → H} {W : World}

theorem sees_ints {t e : TypeId} {k : IntKind} {v : Value} {d : DataW H} {p : List MemPlace} {base : Nat} (ht : P.underlying t = some (.slice e)) (he : P.underlying e = some (.int k)) (hc : P.cellsOf e = 1)
    (hval : Value.okWide P W .any base t v) (hd : DataW.Trod enc P W 0 (fun _ => true) true t v d p) :
    ∃ l : List Int, SeesL W v (l.map (Value.int k)) ∧ ∀ n ∈ l, (Lit.int k n).wf = true := by
  obtain ⟨a, len, cap, rfl⟩ := okWide_slice ht hval
  obtain ⟨fuel, hf⟩ := hd
  rcases open_ints ht he hc hf with ⟨hcs, _⟩ | ⟨x, l, c, zs, hcs, _, hl, hm, hz, _, hcell, hwz⟩
  · simp [Value.cells] at hcs
    obtain ⟨rfl, rfl, rfl⟩ := hcs
    exact ⟨[], .inl ⟨rfl, _, _, rfl⟩, by simp⟩
  · simp [Value.cells] at hcs
    obtain ⟨rfl, rfl, rfl⟩ := hcs
    have hz' : zs.length = cap := by simpa using hz
    refine ⟨zs.take len, ?_, fun n hn => hwz n (List.mem_of_mem_take hn)⟩
    have hlen : ((zs.take len).map (Value.int k)).length = len := by simp; omega
    have := seesL_of (w := W) (a := x) (cap := cap) (xs := (zs.take len).map (Value.int k)) (by rw [hlen]; exact hl) (by
      intro j u hj
      have hjl : j < len := by have := (List.getElem?_eq_some_iff.1 hj).1; rw [hlen] at this; exact this
      rw [hcell j (by omega), ← hj]
      simp [List.getD, hjl, show j < zs.length by omega])
    rw [hlen] at this
    exact this

theorem sees_strs {t e : TypeId} {v : Value} {d : DataW H} {p : List MemPlace} {base : Nat} (ht : P.underlying t = some (.slice e)) (he : P.underlying e = some .string) (hc : P.cellsOf e = 1)
    (hval : Value.okWide P W .any base t v) (hd : DataW.Trod enc P W 0 (fun _ => true) true t v d p) :
    ∃ l : List ByteArray, SeesL W v (l.map Value.string) ∧ ∀ s ∈ l, s.size ≤ maxLen := by
  obtain ⟨a, len, cap, rfl⟩ := okWide_slice ht hval
  obtain ⟨fuel, hf⟩ := hd
  rcases open_strings ht he hc hf with ⟨hcs, _⟩ | ⟨x, l, c, zs, hcs, _, hl, hm, hz, _, hcell, hwz⟩
  · simp [Value.cells] at hcs
    obtain ⟨rfl, rfl, rfl⟩ := hcs
    exact ⟨[], .inl ⟨rfl, _, _, rfl⟩, by simp⟩
  · simp [Value.cells] at hcs
    obtain ⟨rfl, rfl, rfl⟩ := hcs
    have hz' : zs.length = cap := by simpa using hz
    refine ⟨zs.take len, ?_, fun n hn => hwz n (List.mem_of_mem_take hn)⟩
    have hlen : ((zs.take len).map Value.string).length = len := by simp; omega
    have := seesL_of (w := W) (a := x) (cap := cap) (xs := (zs.take len).map Value.string) (by rw [hlen]; exact hl) (by
      intro j u hj
      have hjl : j < len := by have := (List.getElem?_eq_some_iff.1 hj).1; rw [hlen] at this; exact this
      rw [hcell j (by omega), ← hj]
      simp [List.getD, hjl, show j < zs.length by omega])
    rw [hlen] at this
    exact this
end

/-- A slice of bytes that came in, as a list of bytes. -/
theorem sees_u8 {w : World} {v : Value} {l : List Int} (h : SeesL w v (l.map (Value.int .u8))) (hw : ∀ n ∈ l, (Lit.int .u8 n).wf = true) : Sees w v (l.map fun n => UInt8.ofNat n.toNat) := by
  rcases h with ⟨h, a, c, rfl⟩ | ⟨g, off, cap, rfl, hle, hc⟩
  · left
    have : l = [] := by cases l with | nil => rfl | cons _ _ => simp at h
    subst this
    exact ⟨rfl, a, c, rfl⟩
  · right
    refine ⟨g, off, cap, by simp, by simpa using hle, fun j hj => ?_⟩
    simp at hj
    have hb := bounds_u8 (hw _ (List.getElem_mem hj))
    rw [hc j (.int .u8 l[j]) (by simp [hj])]
    have := bv_of l[j] hb.1 hb.2
    simp [List.getD, hj, this]
end
section
open Go.ChangeShapes Go.WideShapes Go.ChangeAt Go.RowKit

theorem spot_none {w : World} {a : Addr} {m : Nat} {cs : List Value} (h : w.cells? 0 a m = some cs) (hm : 0 < m) : a.spot = none := by
  obtain ⟨_, hl, h1⟩ := World.cells?_some h
  have h2 := h1 0 hm
  have e0 : a.add 0 = a := by simp [Addr.add]
  obtain ⟨v, hv⟩ : ∃ v, cs[0]? = some v := ⟨_, List.getElem?_eq_getElem (by omega)⟩
  rw [e0, hv] at h2
  have := addr_plain h2
  obtain ⟨b, o, s⟩ := a
  simp at this
  exact this

theorem cell_at {w : World} {b o : Nat} {m k : Nat} {cs : List Value} (h : w.cells? 0 ((⟨b, o, none⟩ : Addr).add k) m = some cs) (i : Nat) (v : Value) (hv : cs[i]? = some v) (hi : i < m) : w.cell? ⟨b, o + k + i, none⟩ = some v := by
  have h1 := (World.cells?_some h).2.2 i hi
  rw [hv] at h1
  have e : ((⟨b, o, none⟩ : Addr).add k).add i = ⟨b, o + k + i, none⟩ := by
    unfold Addr.add
    split <;> split <;> simp_all
  rw [e] at h1
  exact h1

section
variable {H : Type} (enc : TypeId × Value → H) (w : World)

/-- A slice of whatever: each element reads by a smaller fuel. -/
theorem slice_each {t e : TypeId} {fuel m : Nat} {cs : List Value} {x : DataW H × List MemPlace} (ht : Try.prog.underlying t = some (.slice e)) (hm : Try.prog.cellsOf e = m) (h0 : 0 < m) (h : DataW.trod enc Try.prog w 0 (fun _ => true) true fuel t cs = some x) :
    (∃ a, cs = [.slice a 0 0]) ∨ ∃ a len cap n, n < fuel ∧ cs = [.slice a len cap] ∧ len ≤ cap ∧ cap ≤ maxLen ∧ (len = 0 ∨ ∃ b o, a = some ⟨b, o, none⟩ ∧ ∀ i, i < len → ∃ cs' y, DataW.trod enc Try.prog w 0 (fun _ => true) true n e cs' = some y ∧
      ∀ j v, cs'[j]? = some v → j < m → w.cell? ⟨b, o + i * m + j, none⟩ = some v) := by
  rcases DataW.trod_slice ht h with ⟨rfl, _⟩ | ⟨a, len, cap, elems, rest, n, rfl, rfl, _, hb, hl, hc, hlen, hel, _, _⟩
  · exact .inl ⟨_, rfl⟩
  · refine .inr ⟨some a, len, cap, n, by omega, rfl, hl, hc, ?_⟩
    by_cases hz : len = 0
    · exact .inl hz
    right
    have each : ∀ i, i < len → ∃ cs' y, w.cells? 0 (a.add (i * m)) m = some cs' ∧ DataW.trod enc Try.prog w 0 (fun _ => true) true n e cs' = some y := by
      intro i hi
      have h1 := hel i hi
      rw [List.getElem?_eq_getElem (by omega), hm] at h1
      obtain ⟨cs', h2, h3⟩ := Option.bind_eq_some_iff.1 h1
      exact ⟨cs', _, h2, h3⟩
    obtain ⟨b, o, s⟩ := a
    obtain ⟨cs0, _, hc0, _⟩ := each 0 (by omega)
    have e0 : ((⟨b, o, s⟩ : Addr).add (0 * m)) = ⟨b, o, s⟩ := by simp [Addr.add]
    rw [e0] at hc0
    have hs := spot_none hc0 h0
    simp at hs
    subst hs
    refine ⟨b, o, rfl, fun i hi => ?_⟩
    obtain ⟨cs', y, h2, h3⟩ := each i hi
    exact ⟨cs', y, h3, fun j v hv hj => cell_at h2 j v hv hj⟩


theorem int_reads {fuel : Nat} {cs : List Value} {x : DataW H × List MemPlace} {t : TypeId} {k : IntKind} (ht : Try.prog.underlying t = some (.int k)) (h : DataW.trod enc Try.prog w 0 (fun _ => true) true fuel t cs = some x) : ∃ n : Int, (Lit.int k n).wf = true ∧ cs = [.int k n] := by
  obtain ⟨n, rfl, _, hw⟩ := DataW.trod_int ht h
  exact ⟨n, hw, rfl⟩

theorem bool_reads {fuel : Nat} {cs : List Value} {x : DataW H × List MemPlace} {t : TypeId} (ht : Try.prog.underlying t = some .bool) (h : DataW.trod enc Try.prog w 0 (fun _ => true) true fuel t cs = some x) : ∃ b : Bool, cs = [.bool b] := by
  obtain ⟨n, rfl, _⟩ := DataW.trod_bool ht h
  exact ⟨n, rfl⟩

end
end
section
open Go.ChangeShapes Go.WideShapes Go.ChangeAt Go.RowKit
set_option maxRecDepth 100000

/-- A call of small numbers, an answer of small numbers. -/
structure Sc where
  t : Int
  n : Int
  p : Int
  l : List UInt8
structure Sa where
  e : Int
  r : Int
  l : List UInt8

/-- The slice v shows bytes that were there before. -/
def SeesO (w : World) (v : Value) (l : List UInt8) : Prop := Sees w v l ∧ (l = [] ∨ ∀ k, v.ownBlock = some k → k < w.heap.size)

def ScV (w : World) (s : Sc) (v : Value) : Prop := ∃ a c, v = .agg #[.int .u16 s.t, .int .u16 s.n, .int .u16 s.p, .slice a s.l.length c] ∧ SeesO w (.slice a s.l.length c) s.l ∧ 0 ≤ s.t ∧ s.t ≤ 65535 ∧ 0 ≤ s.n ∧ s.n ≤ 65535 ∧ 0 ≤ s.p ∧ s.p ≤ 65535
def SaV (w : World) (s : Sa) (v : Value) : Prop := ∃ a c, v = .agg #[.int .u16 s.e, .int .u16 s.r, .slice a s.l.length c] ∧ SeesO w (.slice a s.l.length c) s.l ∧ 0 ≤ s.e ∧ s.e ≤ 65535 ∧ 0 ≤ s.r ∧ s.r ≤ 65535

theorem SeesO.fr {w w' : World} {v : Value} {l : List UInt8} (h : SeesO w v l) (hf : Fr (fun _ => False) w w') : SeesO w' v l :=
  ⟨h.1.fr hf (fun _ _ h => h), h.2.imp id (fun h k hk => Nat.lt_of_lt_of_le (h k hk) hf.size)⟩

theorem seesO_u8 {w : World} {v : Value} {l : List Int} (h : SeesL w v (l.map (Value.int .u8))) (hw : ∀ n ∈ l, (Lit.int .u8 n).wf = true) : SeesO w v (l.map fun n => UInt8.ofNat n.toNat) :=
  ⟨sees_u8 h hw, h.old.imp (fun e => by cases l with | nil => rfl | cons _ _ => simp at e) id⟩

theorem cellsOf_Sc : Try.prog.cellsOf 26 = 4 := by kernel_rfl
theorem cellsOf_Sa : Try.prog.cellsOf 30 = 3 := by kernel_rfl
theorem cellsOf_u16 : Try.prog.cellsOf 23 = 1 := by kernel_rfl
theorem cellsOf_u8s : Try.prog.cellsOf 24 = 1 := by kernel_rfl
theorem cellsOf_u8 : Try.prog.cellsOf 5 = 1 := by kernel_rfl

section
variable {H : Type} (enc : TypeId × Value → H) (w : World)

theorem u8s_reads {fuel : Nat} {cs : List Value} {x : DataW H × List MemPlace} (h : DataW.trod enc Try.prog w 0 (fun _ => true) true fuel 24 cs = some x) : ∃ (l : List UInt8) (a : Option Addr) (c : Nat), cs = [.slice a l.length c] ∧ SeesO w (.slice a l.length c) l := by
  rcases slice_each enc w Try.underlying24 cellsOf_u8 (by omega) h with ⟨a, rfl⟩ | ⟨a, len, cap, n', hn, rfl, hle, hc, rfl | ⟨b, o, rfl, each⟩⟩
  · exact ⟨[], a, 0, rfl, .inl ⟨rfl, _, _, rfl⟩, .inl rfl⟩
  · exact ⟨[], a, cap, rfl, .inl ⟨rfl, _, _, rfl⟩, .inl rfl⟩
  · have ch : ∀ i, ∃ n : Int, i < len → ((Lit.int .u8 n).wf = true) ∧ w.cell? ⟨b, o + i, none⟩ = some (.int .u8 n) := by
      intro i
      by_cases hi : i < len
      · obtain ⟨cs', y, h3, hcell⟩ := each i hi
        obtain ⟨n, hw, rfl⟩ := int_reads enc w Try.underlying5 h3
        refine ⟨n, fun _ => ⟨hw, ?_⟩⟩
        have := hcell 0 _ rfl (by omega)
        rwa [Nat.mul_one, Nat.add_zero] at this
      · exact ⟨0, fun h => absurd h hi⟩
    obtain ⟨of, hof⟩ := Classical.axiomOfChoice ch
    have hs : SeesL w (.slice (some ⟨b, o, none⟩) len cap) (((List.range len).map of).map (Value.int .u8)) := .inr ⟨b, o, cap, by simp, by simpa using hle, fun i t hi => by
      rw [List.getElem?_map, List.getElem?_map] at hi
      by_cases hlt : i < len
      · rw [List.getElem?_range hlt] at hi
        cases hi
        exact (hof i hlt).2
      · rw [List.getElem?_eq_none (by simp; omega)] at hi
        cases hi⟩
    have hw : ∀ n ∈ (List.range len).map of, (Lit.int .u8 n).wf = true := by
      intro n hn
      obtain ⟨i, hi, rfl⟩ := List.mem_map.1 hn
      exact (hof i (List.mem_range.1 hi)).1
    have := seesO_u8 hs hw
    have hl : (((List.range len).map of).map fun n => UInt8.ofNat n.toNat).length = len := by simp
    exact ⟨_, some ⟨b, o, none⟩, cap, by rw [hl], by rw [hl]; exact this⟩

theorem sc_any {v : Value} {d : DataW H} {p : List MemPlace} {base : Nat} (hval : Value.okWide Try.prog w .any base 26 v)
    (h : DataW.Trod enc Try.prog w 0 (fun _ => true) true 26 v d p) : ∃ x, ScV w x v := by
  obtain ⟨cs, rfl, _⟩ := okWide_struct Try.underlying26 hval
  obtain ⟨fuel, hf⟩ := h
  obtain ⟨xs, n, rfl, _, hl, hlen, hf⟩ := DataW.trod_struct Try.underlying26 hf
  rw [cellsOf_Sc] at hl
  have hcs : (Value.agg cs).cells.toList = cs.toList := rfl
  rw [hcs] at hl hf
  obtain ⟨cs⟩ := cs
  match cs, hl with
  | [c0, c1, c2, c3], _ =>
  have f0 : DataW.trod enc Try.prog w 0 (fun _ => true) true n 23 (List.take (Try.prog.cellsOf 23) (List.drop 0 [c0, c1, c2, c3])) = xs[0]? := hf 0 _ rfl
  have f1 : DataW.trod enc Try.prog w 0 (fun _ => true) true n 23 (List.take (Try.prog.cellsOf 23) (List.drop 1 [c0, c1, c2, c3])) = xs[1]? := hf 1 _ rfl
  have f2 : DataW.trod enc Try.prog w 0 (fun _ => true) true n 23 (List.take (Try.prog.cellsOf 23) (List.drop 2 [c0, c1, c2, c3])) = xs[2]? := hf 2 _ rfl
  have f3 : DataW.trod enc Try.prog w 0 (fun _ => true) true n 24 (List.take (Try.prog.cellsOf 24) (List.drop 3 [c0, c1, c2, c3])) = xs[3]? := hf 3 _ rfl
  have hl5 : xs.length = 4 := hlen
  rw [List.getElem?_eq_getElem (by omega)] at f0 f1 f2 f3
  simp only [cellsOf_u16, cellsOf_u8s, List.drop_zero, List.drop_succ_cons, List.take_succ_cons, List.take_zero] at f0 f1 f2 f3
  obtain ⟨k0, h0, e0⟩ := int_reads enc w Try.underlying23 f0
  obtain ⟨k1, h1, e1⟩ := int_reads enc w Try.underlying23 f1
  obtain ⟨k2, h2, e2⟩ := int_reads enc w Try.underlying23 f2
  obtain ⟨l, a, c, e3, hs⟩ := u8s_reads enc w f3
  simp at e0 e1 e2 e3
  subst e0 e1 e2 e3
  have b0 := bounds_u16 h0
  have b1 := bounds_u16 h1
  have b2 := bounds_u16 h2
  exact ⟨⟨k0, k1, k2, l⟩, a, c, rfl, hs, b0.1, b0.2, b1.1, b1.2, b2.1, b2.2⟩

theorem sa_any {v : Value} {d : DataW H} {p : List MemPlace} {base : Nat} (hval : Value.okWide Try.prog w .any base 30 v)
    (h : DataW.Trod enc Try.prog w 0 (fun _ => true) true 30 v d p) : ∃ x, SaV w x v := by
  obtain ⟨cs, rfl, _⟩ := okWide_struct Try.underlying30 hval
  obtain ⟨fuel, hf⟩ := h
  obtain ⟨xs, n, rfl, _, hl, hlen, hf⟩ := DataW.trod_struct Try.underlying30 hf
  rw [cellsOf_Sa] at hl
  have hcs : (Value.agg cs).cells.toList = cs.toList := rfl
  rw [hcs] at hl hf
  obtain ⟨cs⟩ := cs
  match cs, hl with
  | [c0, c1, c2], _ =>
  have f0 : DataW.trod enc Try.prog w 0 (fun _ => true) true n 23 (List.take (Try.prog.cellsOf 23) (List.drop 0 [c0, c1, c2])) = xs[0]? := hf 0 _ rfl
  have f1 : DataW.trod enc Try.prog w 0 (fun _ => true) true n 23 (List.take (Try.prog.cellsOf 23) (List.drop 1 [c0, c1, c2])) = xs[1]? := hf 1 _ rfl
  have f2 : DataW.trod enc Try.prog w 0 (fun _ => true) true n 24 (List.take (Try.prog.cellsOf 24) (List.drop 2 [c0, c1, c2])) = xs[2]? := hf 2 _ rfl
  have hl5 : xs.length = 3 := hlen
  rw [List.getElem?_eq_getElem (by omega)] at f0 f1 f2
  simp only [cellsOf_u16, cellsOf_u8s, List.drop_zero, List.drop_succ_cons, List.take_succ_cons, List.take_zero] at f0 f1 f2
  obtain ⟨k0, h0, e0⟩ := int_reads enc w Try.underlying23 f0
  obtain ⟨k1, h1, e1⟩ := int_reads enc w Try.underlying23 f1
  obtain ⟨l, a, c, e2, hs⟩ := u8s_reads enc w f2
  simp at e0 e1 e2
  subst e0 e1 e2
  have b0 := bounds_u16 h0
  have b1 := bounds_u16 h1
  exact ⟨⟨k0, k1, l⟩, a, c, rfl, hs, b0.1, b0.2, b1.1, b1.2⟩
end
end
section
set_option maxRecDepth 100000

abbrev iv (n : Int) : Value := .int .i64 n

/-- The slice value v shows the integers l. -/
def SI (w : World) (v : Value) (l : List Int) : Prop := SeesL w v (l.map (Value.int .i64))

/-- Of a slice that shows l: where its elements lie. -/
def SIc (w : World) (a : Option Addr) (c : Nat) (l : List Int) : Prop :=
  0 < l.length → l.length ≤ c ∧ ∃ g off, a = some ⟨g, off, none⟩ ∧ ∀ j, (hj : j < l.length) → w.cell? ⟨g, off + j, none⟩ = some (.int .i64 l[j])

theorem SI.shape {w : World} {v : Value} {l : List Int} (h : SI w v l) : ∃ a c, v = .slice a l.length c ∧ SIc w a c l := by
  rcases h with ⟨h, a, c, rfl⟩ | ⟨g, off, cap, rfl, hle, hc⟩
  · have : l = [] := by simpa using h
    subst this
    exact ⟨a, c, rfl, fun h => absurd h (by simp)⟩
  · rw [List.length_map] at *
    exact ⟨_, cap, rfl, fun _ => ⟨hle, g, off, rfl, fun j hj => hc j _ (by rw [List.getElem?_map, List.getElem?_eq_getElem hj]; rfl)⟩⟩

theorem SI.fr {w w' : World} {v : Value} {l : List Int} (h : SI w v l) (hf : Fr (fun _ => False) w w') : SI w' v l := h.fr0 hf

theorem SIc.fr {w w' : World} {a : Option Addr} {c : Nat} {l : List Int} (h : SIc w a c l) (hf : Fr (fun _ => False) w w') : SIc w' a c l := fun h0 => by
  obtain ⟨h1, g, off, h2, h3⟩ := h h0
  refine ⟨h1, g, off, h2, fun j hj => ?_⟩
  rw [← h3 j hj]
  exact hf.cell (World.block_lt_of_cell? w _ (h3 j hj)) (fun h => h)

theorem SIc.sees {w : World} {a : Option Addr} {c : Nat} {l : List Int} (h : SIc w a c l) : SI w (.slice a l.length c) l := by
  by_cases h0 : 0 < l.length
  · obtain ⟨h1, g, off, rfl, h3⟩ := h h0
    refine .inr ⟨g, off, c, by simp, by simpa using h1, fun j u hu => ?_⟩
    rw [List.getElem?_map] at hu
    obtain ⟨x, hx, rfl⟩ := Option.map_eq_some_iff.1 hu
    obtain ⟨hj, rfl⟩ := List.getElem?_eq_some_iff.1 hx
    exact h3 j hj
  · have : l = [] := List.eq_nil_of_length_eq_zero (by omega)
    subst this
    exact .inl ⟨rfl, a, c, rfl⟩

theorem lret_bool {a b : Bool} (h : a = b) : Ending.returned (.bool a) = .returned (.bool b) := by rw [h]
theorem lret_int {a b : Int} (h : a = b) : Ending.returned (.int .i64 a) = .returned (.int .i64 b) := by rw [h]

theorem int_list_ext (l m : List Int) (hl : l.length = m.length) (h : ∀ j, (hj : j < l.length) → l[j] = m[j]'(hl ▸ hj)) : l = m :=
  List.ext_getElem hl (fun i h1 _ => h i h1)

theorem lequal_any (l m : List Int) (a b : Option Addr) (c d : Nat) (w : World) (hc : SIc w a c l) (hd : SIc w b d m) (hs : l.length ≤ 1000) :
    Calls Try.prog 71 #[.slice a l.length c, .slice b m.length d] w fun e w' => e = .returned (.bool (decide (l = m))) ∧ Fr (fun _ => False) w w' := by
  have Hc := Lib.hid hc
  have Hd := Lib.hid hd
  clear hc hd
  by_cases hlm : l.length = m.length
  case neg =>
    have hlm1 : ¬ ((l.length : Int) = (m.length : Int)) := by omega
    have HN := Lib.hid hlm
    go_enter Try.func71, Try.ntmps71
    go_wp2
    go_ret
    exact ⟨lret_bool (by have : l ≠ m := fun e => HN.out (by rw [e]); simp [this]), Fr.refl _ _⟩
  have HL := Lib.hid hlm
  obtain ⟨n, hn⟩ : ∃ n, n = m.length := ⟨_, rfl⟩
  rw [← hn, ← hn.trans hlm.symm]
  have HN := Lib.hid hn
  have hs2 : n ≤ 1000 := by omega
  clear hn hlm hs
  go_enter Try.func71, Try.ntmps71
  go_wp2
  go_loopg [5, 13] n (fun g u5 u13 wr => ∃ k : Nat, k ≤ n ∧ g = n - k ∧ u13 = .int .i64 k ∧ Hid (∀ j, (hj : j < l.length) → (hj' : j < m.length) → j < k → l[j] = m[j]) ∧ Fr (fun _ => False) w wr)
  case atStart => exact ⟨0, Nat.zero_le _, rfl, rfl, Lib.hid (fun j _ _ hj => by omega), Fr.refl _ _⟩
  case round =>
    obtain ⟨k, hk, rfl, rfl, HA, hf⟩ := hrel
    by_cases hlt : k < n
    · have hl1 : k < l.length := by have := HL.out; have := HN.out; omega
      have hl2 : k < m.length := by have := HN.out; omega
      obtain ⟨hcap, g, off, rfl, hcell⟩ := (Hc.out.fr hf) (by omega)
      obtain ⟨hcap', g', off', rfl, hcell'⟩ := (Hd.out.fr hf) (by omega)
      obtain ⟨x, hx⟩ : ∃ x, x = l[k] := ⟨_, rfl⟩
      obtain ⟨y, hy⟩ : ∃ y, y = m[k] := ⟨_, rfl⟩
      have hck := hcell k hl1
      have hck' := hcell' k hl2
      rw [← hx] at hck
      rw [← hy] at hck'
      have Hx := Lib.hid hx
      have Hy := Lib.hid hy
      have F := Lib.hid hf
      clear hcell hx hcell' hy hcap hcap' hf
      by_cases he : x = y
      · have He := Lib.hid he
        have hne : (x != y) = false := by simp [he]
        clear he
        go_wp2_with fail
        go_region
        go_wp2_with fail
        go_roundg (n - (k + 1))
        case measure => omega
        case rel =>
          refine ⟨k + 1, by omega, rfl, by congr 1, Lib.hid (fun j hj hj' hjk => ?_), F.out.drew⟩
          by_cases e : j = k
          · subst e; rw [← Hx.out, ← Hy.out]; exact He.out
          · exact HA.out j hj hj' (by omega)
      · have He := Lib.hid he
        have hne : (x != y) = true := by simp [he]
        clear he
        go_wp2_with fail
        go_region
        go_wp2_with fail
        go_ret
        refine ⟨lret_bool ?_, F.out.drew⟩
        have : l ≠ m := by
          intro e
          apply He.out
          rw [Hx.out, Hy.out]
          simp [e]
        simp [this]
    · have F := Lib.hid hf
      clear hf
      go_wp2_with fail
      go_ret
      refine ⟨lret_bool ?_, F.out⟩
      have : l = m := by
        refine int_list_ext l m HL.out (fun j hj => HA.out j hj (HL.out ▸ hj) ?_)
        have := HN.out; have := HL.out; omega
      simp [this]
end
section
set_option maxRecDepth 100000

/-- A view in a block of its own. -/
abbrev oVw (n : Int) (a : Option Addr) (k c : Nat) : Obj := Obj.cells #[.int .i64 n, .slice a k c] 46 (0, 0)

/-- How many of l are in m. -/
def inC (l m : List Int) : Nat := l.countP (fun x => decide (x ∈ m))

theorem inC_le (l m : List Int) : inC l m ≤ l.length := List.countP_le_length
theorem inC_step (l m : List Int) (k : Nat) (hk : k < l.length) : inC (l.take (k + 1)) m = inC (l.take k) m + (if l[k] ∈ m then 1 else 0) := by
  unfold inC
  rw [List.take_succ_eq_append_getElem hk, List.countP_append, List.countP_singleton]
  simp

theorem vw_cells {w : World} {g : Nat} {n : Int} {a : Option Addr} {k c : Nat} (h : w.heap[g]? = some (oVw n a k c)) : w.cell? ⟨g, 0, none⟩ = some (.int .i64 n) ∧ w.cell? ⟨g, 1, none⟩ = some (.slice a k c) := by
  constructor <;> (rw [cell_of_row w g _ _ _ _ h]; rfl)

theorem lblock_kept {S : Nat → Prop} {w0 w1 : World} {b : Nat} {o : Obj} (h : w0.heap[b]? = some o) (f : Fr S w0 w1) (hb : ¬ S b) : w1.heap[b]? = some o := by
  rw [f.block b (Array.getElem?_eq_some_iff.1 h).1 hb]; exact h
end
end Go.Proofs.Ytjnbpgadgdjobaa
