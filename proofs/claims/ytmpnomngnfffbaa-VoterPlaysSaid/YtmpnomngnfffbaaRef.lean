/-
  What the document's answers for words (Word, Long, Quad, Text), and Awake, give.
-/
import Derived.Test.YtmpnomngnfffbaaReader
import Derived.Test.YtmpnomngnfffbaaRefLong
namespace Go.Proofs.Ytmpnomngnfffbaa
open Go.RowKit

/-- A Writer just made. -/
theorem wr_new (w : World) : Wr (w.alloc (.cells #[.slice none 0 0] 40)) w.heap.size (.slice none 0 0) [] :=
  ⟨heap_alloc_new w _, World.ownsRow_nil _ _ _ _, by simp [Value.ownBlock]⟩

theorem Wrote.fresh {b : Nat} {v : Value} {l : List UInt8} {w0 w w' : World} (h : Wrote b v l w w') (hf : Fr (fun _ => False) w0 w) (hb : w0.heap.size ≤ b) (hv : ∀ k, v.ownBlock = some k → w0.heap.size ≤ k) :
    ∃ v', Wr w' b v' l ∧ Fr (fun _ => False) w0 w' ∧ (∀ k, v'.ownBlock = some k → w0.heap.size ≤ k) := by
  obtain ⟨v', h1, h2, h3⟩ := h
  refine ⟨v', h1, hf.trans h2 ?_, ?_⟩
  · rintro i hi (rfl | e)
    · omega
    · have := hv i e; omega
  · intro k hk
    rcases h3 with e | e
    · exact hv k (e ▸ hk)
    · have := e k hk; have := hf.size; omega

set_option maxHeartbeats 1000000 in
theorem reftext_any (s : ByteArray) (hs : s.size ≤ 65535) (w : World) :
    Calls Try.prog 34 #[.string s] w fun e w' => ∃ v, e = .returned v ∧ Made v (txt s.data.toList) w w' := by
  obtain ⟨i0, hi, hz0, hz1, hz2⟩ := info_parts Try.infoU8
  go_enter Try.func34, Try.ntmps34
  go_wp2_with fail
  refine (refword_any _ (by omega) (by omega) _).mono ?_
  rintro e w1 ⟨v1, rfl, m1⟩
  have o1 := m1.1
  go_wp2_with (at_builtin; refine wpList_append_sep rfl (.tmp 6) (.tmp 7) 23 9 rfl 0 5 i0 (.int .u8 0) 1 1 Try.underlying23 _ Try.underlying9 (.inl rfl) hi hz0 hz1 hz2 rfl (by decide) v1 _ _ rfl o1 _ s.size (s.data.toList.map bv) rfl (lenOf_string _) (bv_length s) (string_first _ _) (string_first _ _) (bv_one _) ?b1 ?b2 (Nat.zero_le _) ?grow)
  case b1 => rw [be2_length]; unfold maxLen; omega
  case b2 => rw [be2_length]; omega
  case grow =>
    intro v2 w2 hown hg hv
    have m2 : Made v2 (be2 (s.size : Int).toNat ++ s.data.toList) w w2 := Made.append m1 (Fr.refl _ _) rfl hown hg hv
    have hlen : (be2 (s.size : Int).toNat ++ s.data.toList).length = 2 + s.size := by rw [List.length_append]; rfl
    have Hlen := Lib.hid hlen; clear hlen
    generalize hl2 : be2 (s.size : Int).toNat ++ s.data.toList = l2 at *
    have Hl2 := Lib.hid hl2; clear hl2
    have o2 := m2.1
    clear hown hg hv o1 m1
    by_cases hodd : s.size % 2 = 1
    · have h21 : ((s.size : Int) % 2 == 1) = true := by simp; omega
      go_wp2_with (at_builtin; refine wpList_append_sep rfl (.tmp 13) (.tmp 14) 23 23 rfl 0 5 i0 (.int .u8 0) 1 1 Try.underlying23 _ Try.underlying23 (.inr ⟨_, rfl⟩) hi hz0 hz1 hz2 rfl (by decide) v2 _ _ rfl (World.ownsRow.alloc o2 _) _ 1 ([0].map bv) rfl (lenOf_slice _ _ _) rfl (by exact zero_new _) (by exact zero_new w2.drew) (bv_one _) ?b1 ?b2 (Nat.zero_le _) ?grow)
      case b1 => rw [Hlen.out]; unfold maxLen; omega
      case b2 => rw [Hlen.out]; omega
      case grow =>
        intro v3 w3 hown hg hv
        have m3 : Made v3 (l2 ++ [0]) w w3 := Made.append m2 ((Fr.refl _ _).alloc _) rfl hown hg (by simpa using hv)
        clear hown hg hv
        go_wp2
        go_ret
        refine ⟨v3, rfl, ?_⟩
        have e := txt_odd [] s hodd
        rw [List.nil_append, List.nil_append, Hl2.out] at e
        rw [e]
        exact m3
    · have h21 : ((s.size : Int) % 2 == 1) = false := by simp; omega
      go_wp2
      go_ret
      refine ⟨v2, rfl, ?_⟩
      have e := txt_even [] s hodd
      rw [List.nil_append, List.nil_append, Hl2.out] at e
      rw [e]
      exact m2

/-- Two Writers that share no memory. -/
structure Off (b : Nat) (v : Value) (b' : Nat) (v' : Value) : Prop where
  ne : b ≠ b'
  own1 : v.ownBlock ≠ some b'
  own2 : v'.ownBlock ≠ some b
  both : ∀ k, v.ownBlock = some k → v'.ownBlock ≠ some k

theorem Off.symm {b : Nat} {v : Value} {b' : Nat} {v' : Value} (h : Off b v b' v') : Off b' v' b v :=
  ⟨fun e => h.ne e.symm, h.own2, h.own1, fun k hk e => h.both k e hk⟩

theorem Wr.lt {w : World} {b : Nat} {v : Value} {l : List UInt8} (h : Wr w b v l) : b < w.heap.size ∧ ∀ k, v.ownBlock = some k → k < w.heap.size := ⟨lt_of_block h.here, h.own.lt⟩

theorem Wr.fr {S : Nat → Prop} {w w' : World} {b : Nat} {v : Value} {l : List UInt8} (h : Wr w b v l) (hf : Fr S w w') (hb : ¬ S b) (hv : ∀ k, v.ownBlock = some k → ¬ S k) : Wr w' b v l :=
  ⟨by rw [hf.block b (lt_of_block h.here) hb]; exact h.here, h.own.fr hf hv, h.apart⟩

theorem Off.wrote {w : World} {b b' : Nat} {v v1 v' : Value} {l' : List UInt8} (h : Off b v b' v') (hB : Wr w b' v' l') (hv : v1.ownBlock = v.ownBlock ∨ ∀ k, v1.ownBlock = some k → w.heap.size ≤ k) : Off b v1 b' v' := by
  obtain ⟨h1, h2⟩ := hB.lt
  rcases hv with e | e
  · exact ⟨h.ne, by rw [e]; exact h.own1, h.own2, by rw [e]; exact h.both⟩
  · exact ⟨h.ne, fun hk => by have := e _ hk; omega, h.own2, fun k hk hk' => by have := e k hk; have := h2 k hk'; omega⟩

theorem Wr.other {w w1 : World} {b b' : Nat} {v v' : Value} {l' : List UInt8} (hB : Wr w b' v' l') (h : Off b v b' v') (hf : Fr (fun k => k = b ∨ v.ownBlock = some k) w w1) : Wr w1 b' v' l' :=
  hB.fr hf (by rintro (e | e); exact h.ne e.symm; exact h.own1 e) (by rintro k hk (e | e); exact h.own2 (e ▸ hk); exact h.both k e hk)

/-- One of two Writers made since w0 was written to: the other one stands as it was. -/
theorem Wrote.two {w0 w w' : World} {b b' : Nat} {v v' : Value} {l l' : List UInt8} (h : Wrote b v l w w') (hO : Off b v b' v') (hB : Wr w b' v' l') (g : Fr (fun _ => False) w0 w) (hb : w0.heap.size ≤ b) (hv : ∀ k, v.ownBlock = some k → w0.heap.size ≤ k) :
    ∃ v1, Wr w' b v1 l ∧ Off b v1 b' v' ∧ Wr w' b' v' l' ∧ Fr (fun _ => False) w0 w' ∧ ∀ k, v1.ownBlock = some k → w0.heap.size ≤ k := by
  obtain ⟨v1, h1, h2, h3⟩ := h
  refine ⟨v1, h1, hO.wrote hB h3, hB.other hO h2, g.trans h2 ?_, ?_⟩
  · rintro i hi (e | e)
    · omega
    · have := hv i e; omega
  · intro k hk
    rcases h3 with e | e
    · exact hv k (e ▸ hk)
    · have := e k hk; have := g.size; omega

theorem Fr.trans0 {a b c : World} (h : Fr (fun _ => False) a b) (k : Fr (fun _ => False) b c) : Fr (fun _ => False) a c := h.trans k (fun _ _ h => h)

/-- Bytes, as it is used in 'string(w.Bytes())': what the slice reads as a string, in whatever later world. -/
theorem bytes_str (b : Nat) (v : Value) (l : List UInt8) (w w0 : World) (h : Wr w0 b v l) (hf : Fr (fun _ => False) w0 w) (hl : l.length ≤ 2000000000) :
    Calls Try.prog 12 #[.pointer (some ⟨b, 0, none⟩)] w fun e w' => ∃ v', e = .returned v' ∧ Fr (fun _ => False) w w' ∧ Fr (fun _ => False) w0 w' ∧
      (convert 23 9 v').run Try.prog w' = .ok (.string ⟨l.toArray⟩) w' ∧ (∀ W, Fr (fun _ => False) w' W → (convert 23 9 v').run Try.prog W = .ok (.string ⟨l.toArray⟩) W) := by
  refine (bytes_any b v l w (h.fr hf (fun h => h) (fun _ _ h => h)) hl).mono ?_
  rintro e w1 ⟨v', rfl, ho, hf1, _⟩
  have hs : ∀ W, Fr (fun _ => False) w1 W → (convert 23 9 v').run Try.prog W = .ok (.string ⟨l.toArray⟩) W := fun W hW =>
    (ho.sees.fr hW (fun _ _ h => h)).string _ _ _ Try.underlying23 Try.underlying5 Try.underlying9
  exact ⟨v', rfl, hf1, hf.trans0 hf1, hs w1 (Fr.refl _ _), hs⟩

/-! What a Reader takes of bytes that begin as a Writer laid them. -/

theorem nextS_pre (p rest : List UInt8) (e : Int) : nextS (p ++ rest, e) p.length = (p, (rest, e)) := by
  unfold nextS
  rw [if_neg (by simp)]
  simp

theorem numS_be2 (n : Nat) (h : n < 65536) (rest : List UInt8) (e : Int) : numS (be2 n ++ rest, e) 2 = (n, (rest, e)) := by
  unfold numS
  rw [show (2 : Nat) = (be2 n).length from rfl, nextS_pre, beNum_be2 n h]
theorem numS_be4 (n : Nat) (h : n < 4294967296) (rest : List UInt8) (e : Int) : numS (be4 n ++ rest, e) 4 = (n, (rest, e)) := by
  unfold numS
  rw [show (4 : Nat) = (be4 n).length from rfl, nextS_pre, beNum_be4 n h]
theorem numS_be8 (n : Nat) (h : n < 18446744073709551616) (rest : List UInt8) (e : Int) : numS (be8 n ++ rest, e) 8 = (n, (rest, e)) := by
  unfold numS
  rw [show (8 : Nat) = (be8 n).length from rfl, nextS_pre, beNum_be8 n h]

theorem withinS_be2 (n : Nat) (h : n < 65536) (rest : List UInt8) (most : Int) (hm : (n : Int) ≤ most) (e : Int) : withinS (be2 n ++ rest, e) most = (n, (rest, e)) := by
  unfold withinS
  rw [numS_be2 n h, if_neg (by show ¬ most < (n : Int); omega)]

theorem textS_txt (s rest : List UInt8) (h : s.length < 65536) (most : Int) (hm : (s.length : Int) ≤ most) : textS (txt s ++ rest, 0) most = (s, (rest, 0)) := by
  unfold textS txt
  have hw : withinS (be2 s.length ++ s ++ (if s.length % 2 = 1 then [0] else []) ++ rest, 0) most = (s.length, (s ++ (if s.length % 2 = 1 then [0] else []) ++ rest, 0)) := by
    rw [List.append_assoc, List.append_assoc, withinS_be2 s.length h _ most hm, List.append_assoc]
  rw [hw]
  by_cases ho : s.length % 2 = 1
  · rw [if_pos ho]
    have hn : nextS (s ++ [0] ++ rest, 0) (s.length + s.length % 2) = (s ++ [0], (rest, 0)) := by
      rw [ho, show s.length + 1 = (s ++ [(0 : UInt8)]).length by simp, nextS_pre]
    simp only [hn]
    simp
  · rw [if_neg ho]
    have hn : nextS (s ++ [] ++ rest, 0) (s.length + s.length % 2) = (s, (rest, 0)) := by
      rw [show s.length % 2 = 0 by omega, Nat.add_zero, List.append_nil, nextS_pre]
    simp only [hn]
    simp [ho]

theorem txt_length (s : List UInt8) : (txt s).length = 2 + s.length + s.length % 2 := by
  unfold txt
  rw [List.length_append, List.length_append, be2_length]
  split
  · simp; omega
  · simp; omega

theorem str_of (s : ByteArray) : (⟨s.data.toList.toArray⟩ : ByteArray) = s := by simp

end Go.Proofs.Ytmpnomngnfffbaa
