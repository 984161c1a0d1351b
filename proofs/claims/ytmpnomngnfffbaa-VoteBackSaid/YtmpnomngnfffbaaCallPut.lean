/-
  What Put of a call and of an answer writes, and a call's mark.
-/
import Derived.Test.YtmpnomngnfffbaaCallChk
import Derived.Test.YtmpnomngnfffbaaCrcSum
namespace Go.Proofs.Ytmpnomngnfffbaa
open Go.RowKit

theorem Sees.none {w w' : World} {v : Value} {l : List UInt8} (h : Sees w v l) (hl : l = []) : Sees w' v l := by
  subst hl
  rcases h with ⟨_, a, c, rfl⟩ | ⟨g, off, cap, rfl, _, _⟩
  · exact .inl ⟨rfl, _, _, rfl⟩
  · exact .inl ⟨rfl, _, _, rfl⟩

theorem ok_bounds {p : Int} (h : okN p = true) : 0 ≤ p ∧ p ≤ 65535 := by unfold okN at h; simpa using h
theorem cchk_ok {p : Int} {n : Nat} (h : okN p = true) (hn : n ≤ 4000) : cchk p n = 0 := by unfold cchk sizeN; rw [if_pos h, if_pos hn]
theorem achk_ok {e r : Int} {n : Nat} (h : okN e = true) (h' : okN r = true) (hn : n ≤ 4000) : achk e r n = 0 := by unfold achk; rw [if_pos h]; exact cchk_ok h' hn

theorem crow_kept {S : Nat → Prop} {w0 w1 : World} {b : Nat} {o : Obj} (h : w0.heap[b]? = some o) (f : Fr S w0 w1) (hb : ¬ S b) : w1.heap[b]? = some o := by
  rw [f.block b (Array.getElem?_eq_some_iff.1 h).1 hb]; exact h
theorem cell4 {w : World} {b : Nat} {x0 x1 x2 x3 : Value} {t : TypeId} (h : w.heap[b]? = some (.cells #[x0, x1, x2, x3] t (0, 0))) :
    w.cell? ⟨b, 0, none⟩ = some x0 ∧ w.cell? ⟨b, 1, none⟩ = some x1 ∧ w.cell? ⟨b, 2, none⟩ = some x2 ∧ w.cell? ⟨b, 3, none⟩ = some x3 := by
  simp [World.cell?, h]
theorem cell3 {w : World} {b : Nat} {x0 x1 x2 : Value} {t : TypeId} (h : w.heap[b]? = some (.cells #[x0, x1, x2] t (0, 0))) :
    w.cell? ⟨b, 0, none⟩ = some x0 ∧ w.cell? ⟨b, 1, none⟩ = some x1 ∧ w.cell? ⟨b, 2, none⟩ = some x2 := by
  simp [World.cell?, h]

set_option maxRecDepth 100000 in
set_option maxHeartbeats 4000000 in
theorem cput_any (t n p : Int) (v : Value) (l : List UInt8) (b : Nat) (u : Value) (L : List UInt8) (w : World) (ht0 : 0 ≤ t) (ht1 : t ≤ 65535) (hn0 : 0 ≤ n) (hn1 : n ≤ 65535) (hp : okN p = true)
    (hs : Sees w v l) (hl : l.length ≤ 4000) (hW : Wr w b u L) (hL : L.length ≤ 800000000) (hvb : l = [] ∨ (v.ownBlock ≠ some b ∧ ∀ k, v.ownBlock = some k → u.ownBlock ≠ some k)) :
    Calls Try.prog 26 #[cv t n p v, .pointer (some ⟨b, 0, none⟩)] w fun e w' => e = .returned (.tuple #[]) ∧ Wrote b u (L ++ callB t n p l) w w' := by
  obtain ⟨a, c, rfl, hnn⟩ := hs.shape
  clear hnn
  have hck := cchk_ok hp hl
  obtain ⟨hp0, hp1⟩ := ok_bounds hp
  have HB := Lib.hid hvb; clear hvb
  have HS := Lib.hid hs; clear hs
  have Hl := Lib.hid hl; clear hl
  have hbl := hW.lt.1
  have hul := Lib.hid hW.lt.2
  unfold cv
  go_enter Try.func26, Try.ntmps26
  go_wp2_with fail
  have f0 : Fr (fun _ => False) w (w.alloc (Obj.cells #[.int .u16 t, .int .u16 n, .int .i64 p, .slice a l.length c] 33 (0, 0))) := (Fr.refl _ _).alloc _
  have q0 := heap_alloc_new w (Obj.cells #[.int .u16 t, .int .u16 n, .int .i64 p, .slice a l.length c] 33 (0, 0))
  generalize w.alloc (Obj.cells #[.int .u16 t, .int .u16 n, .int .i64 p, .slice a l.length c] 33 (0, 0)) = w0 at *
  generalize hgd : w.heap.size = g at *
  have Hgd := Lib.hid hgd; clear hgd
  refine (ccheck_any t n p a l.length c _).mono ?_
  rintro e w1 ⟨rfl, f1⟩
  rw [hck]
  clear hck
  have q1 := crow_kept q0 f1 (fun h => h)
  have F1 := Lib.hid (f0.trans f1 (fun _ _ h => h))
  clear q0 f0 f1
  obtain ⟨hb0, hb1, hb2, hb3⟩ := cell4 q1
  go_wp2_with fail
  have W1 := hW.fr F1.out (fun h => h) (fun _ _ h => h)
  refine (word_any b u L t ht0 ht1 _ W1 (by omega)).mono ?_
  rintro e w2 ⟨rfl, u2, W2, f2, v2⟩
  have gu : ¬ (g = b ∨ u.ownBlock = some g) := by
    rintro (e | e)
    · omega
    · have := hul.out g e; have := Hgd.out; omega
  have q2 := crow_kept q1 f2 gu
  obtain ⟨hb0, hb1, hb2, hb3⟩ := cell4 q2
  have F2 := Lib.hid f2; clear f2
  have V2 := Lib.hid v2; clear v2
  have Q1 := Lib.hid q1; clear q1
  have Q2 := Lib.hid q2; clear q2
  have s1 := Lib.hid F1.out.size
  go_wp2_with fail
  refine (word_any b u2 _ n hn0 hn1 _ W2 (by rw [List.length_append, be2_length]; omega)).mono ?_
  rintro e w3 ⟨rfl, h3⟩
  obtain ⟨u3, W3, f3, v3⟩ := Wrote.trans F2.out V2.out h3
  have q3 := crow_kept Q1.out f3 gu
  obtain ⟨hb0, hb1, hb2, hb3⟩ := cell4 q3
  have F3 := Lib.hid f3; clear f3
  have V3 := Lib.hid v3; clear v3
  have Q3 := Lib.hid q3; clear q3
  clear h3
  go_wp2_with fail
  refine (word_any b u3 _ p hp0 hp1 _ W3 (by rw [List.length_append, List.length_append, be2_length, be2_length]; omega)).mono ?_
  rintro e w4 ⟨rfl, h4⟩
  obtain ⟨u4, W4, f4, v4⟩ := Wrote.trans F3.out V3.out h4
  have q4 := crow_kept Q1.out f4 gu
  obtain ⟨hb0, hb1, hb2, hb3⟩ := cell4 q4
  have hs4 : Sees w4 (.slice a l.length c) l := by
    rcases HB.out with e0 | ⟨e1, e2⟩
    · exact (HS.out.fr F1.out (fun _ _ h => h)).none e0
    · exact (HS.out.fr F1.out (fun _ _ h => h)).fr f4 (fun k hk => by
        rintro (e | e)
        · exact e1 (e ▸ hk)
        · exact e2 k hk e)
  have hcv : (convert 23 9 (.slice a l.length c)).run Try.prog w4 = .ok (.string ⟨l.toArray⟩) w4 := hs4.string _ _ _ Try.underlying23 Try.underlying5 Try.underlying9
  have F4 := Lib.hid f4; clear f4
  have V4 := Lib.hid v4; clear v4
  clear h4 hs4 q4
  go_wp2_with fail
  refine (text_any b u4 _ ⟨l.toArray⟩ (by have := Hl.out; show l.length ≤ 65535; omega) _ W4 (by rw [List.length_append, List.length_append, List.length_append, be2_length, be2_length, be2_length]; omega)).mono ?_
  rintro e w5 ⟨rfl, h5⟩
  have H5 := Lib.hid (Wrote.trans F4.out V4.out h5)
  clear h5 hcv
  go_wp2_with fail
  go_end0
  refine ⟨rfl, Wrote.trans (F1.out.mono (fun _ _ h => h.elim)) (.inl rfl) ?_⟩
  have := H5.out
  unfold callB
  simpa only [List.append_assoc] using this

theorem callB_length (t n p : Int) (l : List UInt8) : (callB t n p l).length = 8 + l.length + l.length % 2 := by
  unfold callB
  rw [List.length_append, List.length_append, List.length_append, be2_length, be2_length, be2_length, txt_length]
  omega
theorem ansB_length (n p : Int) (l : List UInt8) : (ansB n p l).length = 6 + l.length + l.length % 2 := by
  unfold ansB
  rw [List.length_append, List.length_append, be2_length, be2_length, txt_length]
  omega

end Go.Proofs.Ytmpnomngnfffbaa
