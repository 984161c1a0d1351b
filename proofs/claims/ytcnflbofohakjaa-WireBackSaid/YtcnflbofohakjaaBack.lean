/-
  WireBack: for every words, longs, quads and texts the law returns true, and its arguments read as before.
-/
import Derived.Test.YtcnflbofohakjaaFacts
import Derived.Test.YtcnflbofohakjaaOpen
import Derived.Deep.RegionWith
import Derived.Deep.Cut
import Derived.Deep.CutRange
import Derived.Deep.CutBlock
import Derived.Deep.LoopGhost
namespace Go.Proofs.Ytcnflbofohakjaa
open Go.RowKit

/-- The Writer b and the slice u, made since w, hold the same bytes, apart from each other. -/
structure Both (w : World) (b : Nat) (L : List UInt8) (u : Value) (wr : World) : Prop where
  fr : Fr (fun _ => False) w wr
  hb : w.heap.size ≤ b
  own : Own wr u L
  new : ∀ k, u.ownBlock = some k → w.heap.size ≤ k
  ne : u.ownBlock ≠ some b
  wr : ∃ v, Wr wr b v L ∧ (∀ k, v.ownBlock = some k → w.heap.size ≤ k) ∧ ∀ k, v.ownBlock = some k → u.ownBlock ≠ some k

/-- A round: the Writer was written to, the same bytes were made and appended to the slice. -/
theorem Both.step {w wr w1 w2 w3 : World} {b : Nat} {L q : List UInt8} {u u' v r : Value} {n : Nat} (h : Both w b L u wr) (hv : Wr wr b v L) (hn : ∀ k, v.ownBlock = some k → w.heap.size ≤ k) (hne : ∀ k, v.ownBlock = some k → u.ownBlock ≠ some k)
    (hW : Wrote b v (L ++ q) wr w1) (hM : Made r q w1 w2) (hlen : n = L.length + q.length)
    (ho : w3.ownsRow 0 5 1 u' n (L.map bv ++ q.map bv)) (hg : w2.grownBy w3 u.ownBlock) (hu : u'.ownBlock = u.ownBlock ∨ u'.ownBlock = some w2.heap.size) : Both w b (L ++ q) u' w3 := by
  obtain ⟨v1, k1, k2, k3⟩ := hW
  obtain ⟨m1, m2, m3⟩ := hM
  have hf := h.fr.size
  have hs1 := k2.size
  have hs2 := m2.size
  have hbl := hv.lt.1
  have hold := h.own.lt
  have hvl := hv.lt.2
  have fr2 : Fr (fun _ => False) w w2 := (h.fr.trans k2 (by
    rintro i hi (e | e)
    · have := h.hb; omega
    · have := hn i e; omega)).trans0 m2
  have gfr : Fr (fun k => some k = u.ownBlock) w2 w3 := Fr.of_grown hg
  have k1' : Wr w2 b v1 (L ++ q) := k1.fr m2 (fun h => h) (fun _ _ h => h)
  have hv1 : ∀ k, v1.ownBlock = some k → u.ownBlock ≠ some k := by
    intro k hk e
    rcases k3 with e1 | e1
    · exact hne k (e1 ▸ hk) e
    · have := e1 k hk; have := hold k e; omega
  refine ⟨fr2.trans gfr (fun i hi e => by have := h.new i e.symm; omega), h.hb, ?_, ?_, ?_, v1, k1'.fr gfr (fun e => h.ne e.symm) (fun k hk e => hv1 k hk e.symm), ?_, ?_⟩
  · unfold Own
    rw [List.length_append, List.map_append, ← hlen]
    exact ho
  · intro k hk
    rcases hu with e | e
    · exact h.new k (e ▸ hk)
    · rw [e] at hk; simp at hk; omega
  · rcases hu with e | e
    · rw [e]; exact h.ne
    · rw [e]; intro e2; simp at e2; omega
  · intro k hk
    rcases k3 with e1 | e1
    · exact hn k (e1 ▸ hk)
    · have := e1 k hk; omega
  · intro k hk e
    rcases hu with e2 | e2
    · exact hv1 k hk (e2 ▸ e)
    · rw [e2] at e
      simp at e
      have := k1'.lt.2 k hk
      omega

/-- A Reader made since w, with these bytes left. -/
structure Left (w : World) (d : Nat) (l : List UInt8) (wr : World) : Prop where
  fr : Fr (fun _ => False) w wr
  hd : w.heap.size ≤ d
  rd : ∃ v, Rd wr d v l 0 ∧ (∀ k, v.ownBlock = some k → w.heap.size ≤ k)

theorem Left.next {w wr w1 : World} {d : Nat} {v : Value} {l l' : List UInt8} (h : Left w d l wr) (hn : ∀ k, v.ownBlock = some k → w.heap.size ≤ k) (hR : Reads d v l' 0 wr w1) : Left w d l' w1 := by
  obtain ⟨v1, h1, h2, h3⟩ := hR
  refine ⟨h.fr.trans h2 (by rintro i hi rfl; have := h.hd; omega), h.hd, v1, h1, fun k hk => ?_⟩
  rcases h3 with e | e
  · exact hn k (e ▸ hk)
  · rw [e] at hk; cases hk

/-- The bytes of numbers, each by f. -/
def enc (f : Nat → List UInt8) (l : List Int) : List UInt8 := l.flatMap fun n => f n.toNat
def encT (l : List ByteArray) : List UInt8 := l.flatMap fun s => txt s.data.toList

theorem enc_snoc (f : Nat → List UInt8) (l : List Int) (n : Int) : enc f (l ++ [n]) = enc f l ++ f n.toNat := by simp [enc]
theorem encT_snoc (l : List ByteArray) (s : ByteArray) : encT (l ++ [s]) = encT l ++ txt s.data.toList := by simp [encT]
theorem enc_length (f : Nat → List UInt8) (c : Nat) (hf : ∀ n, (f n).length = c) (l : List Int) : (enc f l).length = c * l.length := by
  induction l with
  | nil => rfl
  | cons a l ih => simp only [enc, List.flatMap_cons, List.length_append, List.length_cons] at *; rw [ih, hf, Nat.mul_succ, Nat.add_comm]
theorem encT_length (l : List ByteArray) (h : ∀ s ∈ l, s.size ≤ 200) : (encT l).length ≤ 203 * l.length := by
  induction l with
  | nil => simp [encT]
  | cons a l ih =>
    have h1 := h a (by simp)
    have h2 := ih (fun s hs => h s (by simp [hs]))
    have h3 := txt_length a.data.toList
    have h4 : a.data.toList.length = a.size := rfl
    simp only [encT, List.flatMap_cons, List.length_append, List.length_cons] at *
    omega

theorem take_snoc {α : Type} (l : List α) (k : Nat) (h : k < l.length) : l.take (k + 1) = l.take k ++ [l[k]] := List.take_succ_eq_append_getElem h
theorem drop_cons {α : Type} (l : List α) (k : Nat) (h : k < l.length) : l.drop k = l[k] :: l.drop (k + 1) := List.drop_eq_getElem_cons h

theorem enc_take (f : Nat → List UInt8) (l : List Int) (k : Nat) (h : k < l.length) : enc f (l.take (k + 1)) = enc f (l.take k) ++ f (l[k]).toNat := by rw [take_snoc l k h, enc_snoc]

theorem SeesL.at {w : World} {v : Value} {xs : List Value} {k : Nat} (h : SeesL w v xs) (hk : k < xs.length) : ∃ g off cap, v = .slice (some ⟨g, off, none⟩) xs.length cap ∧ w.cell? ⟨g, off + k, none⟩ = some xs[k] := by
  rcases h with ⟨h, _⟩ | ⟨g, off, cap, rfl, hle, hc⟩
  · subst h; simp at hk
  · exact ⟨g, off, cap, rfl, hc k _ (List.getElem?_eq_getElem hk)⟩

theorem SeesL.shape {w : World} {v : Value} {xs : List Value} (h : SeesL w v xs) : ∃ a c, v = .slice a xs.length c := by
  rcases h with ⟨rfl, a, c, rfl⟩ | ⟨g, off, cap, rfl, _, _⟩
  · exact ⟨a, c, rfl⟩
  · exact ⟨_, cap, rfl⟩

set_option maxRecDepth 100000 in
set_option maxHeartbeats 8000000 in
theorem back_any (v1 : Value) (l1 : List Int) (v2 : Value) (l2 : List Int) (v3 : Value) (l3 : List Int) (v4 : Value) (l4 : List ByteArray) (w : World)
    (s1 : SeesL w v1 (l1.map (Value.int .u16))) (f1 : ∀ n ∈ l1, (Lit.int .u16 n).wf = true) (s2 : SeesL w v2 (l2.map (Value.int .u32))) (f2 : ∀ n ∈ l2, (Lit.int .u32 n).wf = true)
    (s3 : SeesL w v3 (l3.map (Value.int .u64))) (f3 : ∀ n ∈ l3, (Lit.int .u64 n).wf = true) (s4 : SeesL w v4 (l4.map Value.string)) (n1 : l1.length ≤ 30) (n2 : l2.length ≤ 30) (n3 : l3.length ≤ 30) (n4 : l4.length ≤ 30) :
    Calls Try.prog 3 #[v1, v2, v3, v4] w fun e w' => e = .returned (.bool true) ∧ Fr (fun _ => False) w w' := by
  obtain ⟨i0, hi, hz0, hz1, hz2⟩ := info_parts Try.infoU8
  have c1 : decide ((30 : Int) < (l1.length : Int)) = false := by simp; omega
  have c2 : decide ((30 : Int) < (l2.length : Int)) = false := by simp; omega
  have c3 : decide ((30 : Int) < (l3.length : Int)) = false := by simp; omega
  have c4 : decide ((30 : Int) < (l4.length : Int)) = false := by simp; omega
  obtain ⟨a1, k1, rfl⟩ := s1.shape
  obtain ⟨a2, k2, rfl⟩ := s2.shape
  obtain ⟨a3, k3, rfl⟩ := s3.shape
  obtain ⟨a4, k4, rfl⟩ := s4.shape
  rw [List.length_map] at *
  have F1 := Lib.hid f1
  have F2 := Lib.hid f2
  have F3 := Lib.hid f3
  clear f1 f2 f3
  go_enter Try.func3, Try.ntmps3
  go_wp2_with fail
  refine (awake_any _).mono ?_
  rintro e w1 ⟨rfl, g1⟩
  have h0 : Both w w1.heap.size [] (.slice none 0 0) (w1.alloc (.cells #[.slice none 0 0] 30)) :=
    ⟨g1.alloc _, g1.size, World.ownsRow_nil _ _ _ _, by simp [Value.ownBlock], by simp [Value.ownBlock], _, wr_new w1, by simp [Value.ownBlock], by simp [Value.ownBlock]⟩
  clear g1
  go_wp2_with fail
  generalize w1.heap.size = b at *
  go_loopg [10, 52] l1.length (fun g u i wr => ∃ k : Nat, k ≤ l1.length ∧ g = l1.length - k ∧ i = .int .i64 k ∧ Both w b (enc be2 (l1.take k)) u wr)
  case atStart => exact ⟨0, Nat.zero_le _, rfl, rfl, h0⟩
  case round =>
    clear h0
    obtain ⟨k, hkl, rfl, rfl, hB⟩ := hrel
    by_cases hlt : k < l1.length
    · obtain ⟨g, off, cap, e, hcell⟩ := (s1.fr0 hB.fr).at (k := k) (by simpa using hlt)
      rw [List.length_map] at e
      simp only [Value.slice.injEq] at e
      obtain ⟨rfl, _, rfl⟩ := e
      rw [List.getElem_map] at hcell
      have hbd := bounds_u16 (F1.out _ (List.getElem_mem hlt))
      have htk := enc_take be2 l1 k hlt
      have hln := enc_length be2 2 be2_length (l1.take k)
      have hll : (l1.take k).length ≤ 30 := by simp; omega
      generalize l1[k] = n at *
      generalize enc be2 (l1.take k) = L at *
      have Htk := Lib.hid htk
      have hL : L.length ≤ 10000 := by omega
      clear htk hln hll
      obtain ⟨v, hv, hn, hne⟩ := hB.wr
      obtain ⟨h10, h11⟩ := hbd
      go_wp2_with fail
      refine (word_any b v L n h10 h11 _ hv (by omega)).mono ?_
      rintro e wA ⟨rfl, hW⟩
      go_wp2_with fail
      refine (refword_any n h10 h11 _).mono ?_
      rintro e wB ⟨r, rfl, hM⟩
      have hown : Own wB _ L := (hB.own.fr (by obtain ⟨_, _, hf, _⟩ := hW; exact hf) (by rintro k hk (e | e); exact hB.ne (e ▸ hk); exact hne k e hk)).fr hM.2.1 (fun _ _ h => h)
      obtain ⟨ra, rc, rfl⟩ := slice_of_own hM.1
      have hse := hM.1.sees
      go_wp2_with (at_builtin; refine wpList_append_sep rfl (.tmp 59) (.tmp 62) 28 28 rfl 0 5 i0 (.int .u8 0) 1 1 Try.underlying28 _ Try.underlying28 (.inr ⟨_, rfl⟩) hi hz0 hz1 hz2 rfl (by decide) u10 L.length (L.map bv) rfl hown _ 2 ((be2 n.toNat).map bv) rfl (lenOf_slice _ _ _) rfl (by exact hse.first) (by exact hse.drew.first) (bv_one _) ?b1 ?b2 (Nat.zero_le _) ?grow)
      case b1 => unfold maxLen; omega
      case b2 => omega
      case grow =>
        intro u' wC ho hg hu
        have hB' := hB.step hv hn hne hW hM rfl ho hg hu
        rw [← Htk.out] at hB'
        clear ho hg hu hW hM hown hse hv hn hne
        go_wp2_with fail
        go_roundg (l1.length - (k + 1))
        case measure => omega
        case rel => exact ⟨k + 1, by omega, rfl, by go_num, hB'⟩
    · have hk : k = l1.length := by omega
      rw [List.take_of_length_le (by omega)] at hB
      have hln := enc_length be2 2 be2_length l1
      clear hk hkl
      obtain ⟨P1, hP⟩ : ∃ P, P = enc be2 l1 := ⟨_, rfl⟩
      have hPl1 : P1.length ≤ 60 := by rw [hP]; omega
      rw [← hP] at hB
      have HP1 := Lib.hid hP
      clear hP hln
      go_wp2_with fail
      clear hlt
      go_loopg [10, 67] l2.length (fun g u i wr => ∃ k : Nat, k ≤ l2.length ∧ g = l2.length - k ∧ i = .int .i64 k ∧ Both w b (P1 ++ enc be4 (l2.take k)) u wr)
      case atStart => exact ⟨0, Nat.zero_le _, rfl, rfl, by rw [show enc be4 (l2.take 0) = [] from rfl, List.append_nil]; exact hB⟩
      case round =>
        clear hB
        obtain ⟨k, hkl, rfl, rfl, hB⟩ := hrel
        by_cases hlt : k < l2.length
        · obtain ⟨g, off, cap, e, hcell⟩ := (s2.fr0 hB.fr).at (k := k) (by simpa using hlt)
          rw [List.length_map] at e
          simp only [Value.slice.injEq] at e
          obtain ⟨rfl, _, rfl⟩ := e
          rw [List.getElem_map] at hcell
          have hbd := bounds_u32 (F2.out _ (List.getElem_mem hlt))
          have htk := enc_take be4 l2 k hlt
          have hln := enc_length be4 4 be4_length (l2.take k)
          have hll : (l2.take k).length ≤ 30 := by simp; omega
          generalize l2[k] = n at *
          have htk2 : P1 ++ enc be4 (l2.take (k + 1)) = P1 ++ enc be4 (l2.take k) ++ be4 n.toNat := by rw [htk, List.append_assoc]
          have hL : (P1 ++ enc be4 (l2.take k)).length ≤ 10000 := by rw [List.length_append]; omega
          generalize P1 ++ enc be4 (l2.take k) = L at *
          have Htk := Lib.hid htk2
          clear htk htk2 hln hll
          obtain ⟨v, hv, hn, hne⟩ := hB.wr
          obtain ⟨h10, h11⟩ := hbd
          go_wp2_with fail
          refine (long_any b v L n h10 h11 _ hv (by omega)).mono ?_
          rintro e wA ⟨rfl, hW⟩
          go_wp2_with fail
          refine (reflong_any n h10 h11 _).mono ?_
          rintro e wB ⟨r, rfl, hM⟩
          have hown : Own wB _ L := (hB.own.fr (by obtain ⟨_, _, hf, _⟩ := hW; exact hf) (by rintro k hk (e | e); exact hB.ne (e ▸ hk); exact hne k e hk)).fr hM.2.1 (fun _ _ h => h)
          obtain ⟨ra, rc, rfl⟩ := slice_of_own hM.1
          have hse := hM.1.sees
          go_wp2_with (at_builtin; refine wpList_append_sep rfl (.tmp 74) (.tmp 76) 28 28 rfl 0 5 i0 (.int .u8 0) 1 1 Try.underlying28 _ Try.underlying28 (.inr ⟨_, rfl⟩) hi hz0 hz1 hz2 rfl (by decide) u10 L.length (L.map bv) rfl hown _ 4 ((be4 n.toNat).map bv) rfl (lenOf_slice _ _ _) rfl (by exact hse.first) (by exact hse.drew.first) (bv_one _) ?b1 ?b2 (Nat.zero_le _) ?grow)
          case b1 => unfold maxLen; omega
          case b2 => omega
          case grow =>
            intro u' wC ho hg hu
            have hB' := hB.step hv hn hne hW hM rfl ho hg hu
            rw [← Htk.out] at hB'
            clear ho hg hu hW hM hown hse hv hn hne
            go_wp2_with fail
            go_roundg (l2.length - (k + 1))
            case measure => omega
            case rel => exact ⟨k + 1, by omega, rfl, by go_num, hB'⟩
        · have hk : k = l2.length := by omega
          rw [List.take_of_length_le (by omega)] at hB
          have hln := enc_length be4 4 be4_length l2
          clear hk hkl
          obtain ⟨P2, hP⟩ : ∃ P, P = P1 ++ enc be4 l2 := ⟨_, rfl⟩
          have hPl2 : P2.length ≤ 180 := by rw [hP, List.length_append]; omega
          rw [← hP] at hB
          have HP2 := Lib.hid hP
          clear hP hln
          go_wp2_with fail
          clear hlt
          go_loopg [10, 81] l3.length (fun g u i wr => ∃ k : Nat, k ≤ l3.length ∧ g = l3.length - k ∧ i = .int .i64 k ∧ Both w b (P2 ++ enc be8 (l3.take k)) u wr)
          case atStart => exact ⟨0, Nat.zero_le _, rfl, rfl, by rw [show enc be8 (l3.take 0) = [] from rfl, List.append_nil]; exact hB⟩
          case round =>
            clear hB
            obtain ⟨k, hkl, rfl, rfl, hB⟩ := hrel
            by_cases hlt : k < l3.length
            · obtain ⟨g, off, cap, e, hcell⟩ := (s3.fr0 hB.fr).at (k := k) (by simpa using hlt)
              rw [List.length_map] at e
              simp only [Value.slice.injEq] at e
              obtain ⟨rfl, _, rfl⟩ := e
              rw [List.getElem_map] at hcell
              have hbd := bounds_u64 (F3.out _ (List.getElem_mem hlt))
              have htk := enc_take be8 l3 k hlt
              have hln := enc_length be8 8 be8_length (l3.take k)
              have hll : (l3.take k).length ≤ 30 := by simp; omega
              generalize l3[k] = n at *
              have htk2 : P2 ++ enc be8 (l3.take (k + 1)) = P2 ++ enc be8 (l3.take k) ++ be8 n.toNat := by rw [htk, List.append_assoc]
              have hL : (P2 ++ enc be8 (l3.take k)).length ≤ 10000 := by rw [List.length_append]; omega
              generalize P2 ++ enc be8 (l3.take k) = L at *
              have Htk := Lib.hid htk2
              clear htk htk2 hln hll
              obtain ⟨v, hv, hn, hne⟩ := hB.wr
              obtain ⟨h10, h11⟩ := hbd
              go_wp2_with fail
              refine (quad_any b v L n h10 h11 _ hv (by omega)).mono ?_
              rintro e wA ⟨rfl, hW⟩
              go_wp2_with fail
              refine (refquad_any n h10 h11 _).mono ?_
              rintro e wB ⟨r, rfl, hM⟩
              have hown : Own wB _ L := (hB.own.fr (by obtain ⟨_, _, hf, _⟩ := hW; exact hf) (by rintro k hk (e | e); exact hB.ne (e ▸ hk); exact hne k e hk)).fr hM.2.1 (fun _ _ h => h)
              obtain ⟨ra, rc, rfl⟩ := slice_of_own hM.1
              have hse := hM.1.sees
              go_wp2_with (at_builtin; refine wpList_append_sep rfl (.tmp 88) (.tmp 90) 28 28 rfl 0 5 i0 (.int .u8 0) 1 1 Try.underlying28 _ Try.underlying28 (.inr ⟨_, rfl⟩) hi hz0 hz1 hz2 rfl (by decide) u10 L.length (L.map bv) rfl hown _ 8 ((be8 n.toNat).map bv) rfl (lenOf_slice _ _ _) rfl (by exact hse.first) (by exact hse.drew.first) (bv_one _) ?b1 ?b2 (Nat.zero_le _) ?grow)
              case b1 => unfold maxLen; omega
              case b2 => omega
              case grow =>
                intro u' wC ho hg hu
                have hB' := hB.step hv hn hne hW hM rfl ho hg hu
                rw [← Htk.out] at hB'
                clear ho hg hu hW hM hown hse hv hn hne
                go_wp2_with fail
                go_roundg (l3.length - (k + 1))
                case measure => omega
                case rel => exact ⟨k + 1, by omega, rfl, by go_num, hB'⟩
            · have hk : k = l3.length := by omega
              rw [List.take_of_length_le (by omega)] at hB
              have hln := enc_length be8 8 be8_length l3
              clear hk hkl
              obtain ⟨P3, hP⟩ : ∃ P, P = P2 ++ enc be8 l3 := ⟨_, rfl⟩
              have hPl3 : P3.length ≤ 420 := by rw [hP, List.length_append]; omega
              rw [← hP] at hB
              have HP3 := Lib.hid hP
              clear hP hln
              go_wp2_with fail
              clear hlt
              go_loopg [10, 95] l4.length (fun g u i wr => ∃ k : Nat, k ≤ l4.length ∧ g = l4.length - k ∧ i = .int .i64 k ∧ (∀ j (hj : j < l4.length), j < k → l4[j].size ≤ 200) ∧ Both w b (P3 ++ encT (l4.take k)) u wr)
              case atStart => exact ⟨0, Nat.zero_le _, rfl, rfl, fun j hj h => absurd h (Nat.not_lt_zero _), by rw [show encT (l4.take 0) = [] from rfl, List.append_nil]; exact hB⟩
              case round =>
                clear hB
                obtain ⟨k, hkl, rfl, rfl, hsm, hB⟩ := hrel
                have Hsm := Lib.hid hsm; clear hsm
                by_cases hlt : k < l4.length
                · obtain ⟨g, off, cap, e, hcell⟩ := (s4.fr0 hB.fr).at (k := k) (by simpa using hlt)
                  rw [List.length_map] at e
                  simp only [Value.slice.injEq] at e
                  obtain ⟨rfl, _, rfl⟩ := e
                  rw [List.getElem_map] at hcell
                  have htk : encT (l4.take (k + 1)) = encT (l4.take k) ++ txt (l4[k]).data.toList := by rw [take_snoc l4 k hlt, encT_snoc]
                  have hln := encT_length (l4.take k) (by
                    intro s hs
                    obtain ⟨j, hj, rfl⟩ := List.getElem_of_mem hs
                    rw [List.getElem_take]
                    simp at hj
                    exact Hsm.out j (by omega) (by omega))
                  have hll : (l4.take k).length ≤ 30 := by simp; omega
                  have hsz : ∀ (h : (l4[k]).size ≤ 200), ∀ j (hj : j < l4.length), j < k + 1 → l4[j].size ≤ 200 := by
                    intro h j hj hjk
                    by_cases e : j = k
                    · subst e; exact h
                    · exact Hsm.out j hj (by omega)
                  have Hsz := Lib.hid hsz
                  clear hsz Hsm
                  generalize l4[k] = s at *
                  have htk2 : P3 ++ encT (l4.take (k + 1)) = P3 ++ encT (l4.take k) ++ txt s.data.toList := by rw [htk, List.append_assoc]
                  have hL : (P3 ++ encT (l4.take k)).length ≤ 10000 := by rw [List.length_append]; omega
                  generalize P3 ++ encT (l4.take k) = L at *
                  have Htk := Lib.hid htk2
                  clear htk htk2 hln hll
                  by_cases hbig : 200 < s.size
                  · have hbig' : decide ((200 : Int) < (s.size : Int)) = true := by simp; omega
                    have hfr := hB.fr
                    clear hB
                    go_wp2_with fail
                    go_ret
                    exact ⟨rfl, hfr⟩
                  · have hbig' : decide ((200 : Int) < (s.size : Int)) = false := by simp; omega
                    have hsz := Hsz.out (by omega)
                    clear Hsz
                    have Hsz := Lib.hid hsz
                    clear hsz
                    obtain ⟨v, hv, hn, hne⟩ := hB.wr
                    go_wp2_with fail
                    refine (text_any b v L s (by omega) _ hv (by omega)).mono ?_
                    rintro e wA ⟨rfl, hW⟩
                    go_wp2_with fail
                    refine (reftext_any s (by omega) _).mono ?_
                    rintro e wB ⟨r, rfl, hM⟩
                    have hown : Own wB _ L := (hB.own.fr (by obtain ⟨_, _, hf, _⟩ := hW; exact hf) (by rintro k hk (e | e); exact hB.ne (e ▸ hk); exact hne k e hk)).fr hM.2.1 (fun _ _ h => h)
                    have htl := txt_length s.data.toList
                    rw [show s.data.toList.length = s.size from rfl] at htl
                    generalize txt s.data.toList = q at *
                    obtain ⟨ra, rc, rfl⟩ := slice_of_own hM.1
                    have hse := hM.1.sees
                    have hql : q.length ≤ 300 := by omega
                    have Htl := Lib.hid htl; clear htl
                    go_wp2_with (at_builtin; refine wpList_append_sep rfl (.tmp 105) (.tmp 107) 28 28 rfl 0 5 i0 (.int .u8 0) 1 1 Try.underlying28 _ Try.underlying28 (.inr ⟨_, rfl⟩) hi hz0 hz1 hz2 rfl (by decide) u10 L.length (L.map bv) rfl hown _ q.length (q.map bv) rfl (lenOf_slice _ _ _) (by simp) (by exact hse.first) (by exact hse.drew.first) (bv_one _) ?b1 ?b2 (Nat.zero_le _) ?grow)
                    case b1 => unfold maxLen; omega
                    case b2 => omega
                    case grow =>
                      intro u' wC ho hg hu
                      have hB' := hB.step hv hn hne hW hM rfl ho hg hu
                      rw [← Htk.out] at hB'
                      clear ho hg hu hW hM hown hse hv hn hne
                      go_wp2_with fail
                      go_roundg (l4.length - (k + 1))
                      case measure => omega
                      case rel => exact ⟨k + 1, by omega, rfl, by go_num, Hsz.out, hB'⟩
                · have hk : k = l4.length := by omega
                  rw [List.take_of_length_le (by omega)] at hB
                  have hsm : ∀ s ∈ l4, s.size ≤ 200 := by
                    intro s hs
                    obtain ⟨j, hj, rfl⟩ := List.getElem_of_mem hs
                    exact Hsm.out j hj (by omega)
                  have hln := encT_length l4 hsm
                  obtain ⟨P4, hP⟩ : ∃ P, P = P3 ++ encT l4 := ⟨_, rfl⟩
                  have hPl4 : P4.length ≤ 10000 := by rw [hP, List.length_append]; omega
                  rw [← hP] at hB
                  have HP4 := Lib.hid hP
                  have Hs4 := Lib.hid hsm
                  clear hP hln hsm Hsm hk hkl
                  go_wp2_with fail
                  clear hlt
                  obtain ⟨ua, uc, hu⟩ := slice_of_own hB.own
                  subst hu
                  obtain ⟨v, hv, hn, hne⟩ := hB.wr
                  clear hn hne
                  have hsl : ∀ W, Fr (fun _ => False) wr W → (convert 28 9 (.slice ua P4.length uc)).run Try.prog W = .ok (.string ⟨P4.toArray⟩) W := fun W hW =>
                    (hB.own.sees.fr hW (fun _ _ h => h)).string _ _ _ Try.underlying28 Try.underlying5 Try.underlying9
                  have Hsl := Lib.hid hsl; clear hsl
                  have hdr : Fr (fun _ => False) wr wr.drew := (Fr.refl _ _).drew
                  have hs0 := Hsl.out _ hdr
                  go_cut [122] from 110 to 122 (fun c wx => c = .bool false ∧ Fr (fun _ => False) wr wx)
                  case first =>
                    --<A
                    go_region_with (first
                      | (go_at_call 16; refine (bytes_str b v P4 _ wr hv (by assumption) (by omega)).mono ?_; rintro e1 wa ⟨va, rfl, fa, ga, ca, da⟩; have hs1 := Hsl.out _ ga)
                      | (go_at_call 17; refine (len_fr b v P4 _ wr hv (by assumption)).mono ?_; rintro e1 w' ⟨rfl, rfl⟩))
                    all_goals (go_wp2_with fail; go_meet; exact ⟨rfl, by assumption⟩)
                    -->A
                  case rest =>
                    obtain ⟨rfl, hwx⟩ := hcut
                    have gx := hB.fr.trans0 hwx
                    have hse := hB.own.sees.fr hwx (fun _ _ h => h)
                    clear hwx hdr hs0 hv hB
                    go_wp2_with fail
                    refine (read_any _ P4 _ hse (by omega)).mono ?_
                    rintro e w5 ⟨d, v5, rfl, r5, f5, hd, q5⟩
                    have g5 := gx.trans0 f5
                    have hdw := Nat.le_trans gx.size hd
                    have hR0 : Left w d P4 w5 := ⟨g5, hdw, v5, r5, fun k hk => Nat.le_trans gx.size (q5 k hk)⟩
                    clear hse gx f5 hd q5 r5 g5 hdw
                    obtain ⟨Q2, hQ2⟩ : ∃ Q, Q = enc be8 l3 ++ encT l4 := ⟨_, rfl⟩
                    obtain ⟨Q1, hQ1⟩ : ∃ Q, Q = enc be4 l2 ++ Q2 := ⟨_, rfl⟩
                    have hP : P4 = enc be2 l1 ++ Q1 := by rw [HP4.out, HP3.out, HP2.out, HP1.out, hQ1, hQ2]; simp only [List.append_assoc]
                    have HQ1 := Lib.hid hQ1
                    have HQ2 := Lib.hid hQ2
                    rw [hP] at hR0
                    clear hQ1 hQ2 hP
                    go_wp2_with fail
                    go_loopg [127] l1.length (fun g i wr => ∃ k : Nat, k ≤ l1.length ∧ g = l1.length - k ∧ i = .int .i64 k ∧ Left w d (enc be2 (l1.drop k) ++ Q1) wr)
                    case atStart => exact ⟨0, Nat.zero_le _, rfl, rfl, hR0⟩
                    case round =>
                      clear hR0
                      obtain ⟨k, hkl, rfl, rfl, hL⟩ := hrel
                      by_cases hlt : k < l1.length
                      · obtain ⟨g, off, cap, e, hcell⟩ := (s1.fr0 hL.fr).at (k := k) (by simpa using hlt)
                        rw [List.length_map] at e
                        simp only [Value.slice.injEq] at e
                        obtain ⟨rfl, _, rfl⟩ := e
                        rw [List.getElem_map] at hcell
                        have hbd := bounds_u16 (F1.out _ (List.getElem_mem hlt))
                        have hdk : enc be2 (l1.drop k) ++ Q1 = be2 (l1[k]).toNat ++ (enc be2 (l1.drop (k + 1)) ++ Q1) := by
                          rw [drop_cons l1 k hlt]
                          simp only [enc, List.flatMap_cons, List.append_assoc]
                        rw [hdk] at hL
                        generalize l1[k] = n at *
                        have hnum := numS_be2 n.toNat (by omega) (enc be2 (l1.drop (k + 1)) ++ Q1) 0
                        generalize hT : enc be2 (l1.drop (k + 1)) ++ Q1 = T at *
                        have HT := Lib.hid hT; clear hT
                        have Hdk := Lib.hid hdk
                        have Hnum := Lib.hid hnum
                        clear hdk hnum
                        obtain ⟨v, hv, hn⟩ := hL.rd
                        have Hn := Lib.hid hn; clear hn
                        obtain ⟨h10, h11⟩ := hbd
                        go_wp2_with fail
                        refine (rword_any d v _ 0 _ hv).mono ?_
                        rintro e wA ⟨rfl, hR⟩
                        rw [Hnum.out] at hR ⊢
                        dsimp only at hR ⊢
                        rw [show ((n.toNat : Nat) : Int) = n by omega]
                        have hnext := hL.next Hn.out hR
                        clear hL hR hv
                        go_wp2_with fail
                        go_roundg (l1.length - (k + 1))
                        case measure => omega
                        case rel => exact ⟨k + 1, by omega, rfl, by go_num, by rw [HT.out]; exact hnext⟩
                      · have hk : k = l1.length := by omega
                        rw [List.drop_eq_nil_of_le (by omega), show enc be2 [] = [] from rfl, List.nil_append] at hL
                        have hR0 := hL
                        clear hL hk hkl
                        rw [HQ1.out] at hR0
                        go_wp2_with fail
                        go_loopg [138] l2.length (fun g i wr => ∃ k : Nat, k ≤ l2.length ∧ g = l2.length - k ∧ i = .int .i64 k ∧ Left w d (enc be4 (l2.drop k) ++ Q2) wr)
                        case atStart => exact ⟨0, Nat.zero_le _, rfl, rfl, hR0⟩
                        case round =>
                          clear hR0
                          obtain ⟨k, hkl, rfl, rfl, hL⟩ := hrel
                          by_cases hlt : k < l2.length
                          · obtain ⟨g, off, cap, e, hcell⟩ := (s2.fr0 hL.fr).at (k := k) (by simpa using hlt)
                            rw [List.length_map] at e
                            simp only [Value.slice.injEq] at e
                            obtain ⟨rfl, _, rfl⟩ := e
                            rw [List.getElem_map] at hcell
                            have hbd := bounds_u32 (F2.out _ (List.getElem_mem hlt))
                            have hdk : enc be4 (l2.drop k) ++ Q2 = be4 (l2[k]).toNat ++ (enc be4 (l2.drop (k + 1)) ++ Q2) := by
                              rw [drop_cons l2 k hlt]
                              simp only [enc, List.flatMap_cons, List.append_assoc]
                            rw [hdk] at hL
                            generalize l2[k] = n at *
                            have hnum := numS_be4 n.toNat (by omega) (enc be4 (l2.drop (k + 1)) ++ Q2) 0
                            generalize hT : enc be4 (l2.drop (k + 1)) ++ Q2 = T at *
                            have HT := Lib.hid hT; clear hT
                            have Hdk := Lib.hid hdk
                            have Hnum := Lib.hid hnum
                            clear hdk hnum
                            obtain ⟨v, hv, hn⟩ := hL.rd
                            have Hn := Lib.hid hn; clear hn
                            obtain ⟨h10, h11⟩ := hbd
                            go_wp2_with fail
                            refine (rlong_any d v _ 0 _ hv).mono ?_
                            rintro e wA ⟨rfl, hR⟩
                            rw [Hnum.out] at hR ⊢
                            dsimp only at hR ⊢
                            rw [show ((n.toNat : Nat) : Int) = n by omega]
                            have hnext := hL.next Hn.out hR
                            clear hL hR hv
                            go_wp2_with fail
                            go_roundg (l2.length - (k + 1))
                            case measure => omega
                            case rel => exact ⟨k + 1, by omega, rfl, by go_num, by rw [HT.out]; exact hnext⟩
                          · have hk : k = l2.length := by omega
                            rw [List.drop_eq_nil_of_le (by omega), show enc be4 [] = [] from rfl, List.nil_append] at hL
                            have hR0 := hL
                            clear hL hk hkl
                            rw [HQ2.out] at hR0
                            go_wp2_with fail
                            go_loopg [149] l3.length (fun g i wr => ∃ k : Nat, k ≤ l3.length ∧ g = l3.length - k ∧ i = .int .i64 k ∧ Left w d (enc be8 (l3.drop k) ++ encT l4) wr)
                            case atStart => exact ⟨0, Nat.zero_le _, rfl, rfl, hR0⟩
                            case round =>
                              clear hR0
                              obtain ⟨k, hkl, rfl, rfl, hL⟩ := hrel
                              by_cases hlt : k < l3.length
                              · obtain ⟨g, off, cap, e, hcell⟩ := (s3.fr0 hL.fr).at (k := k) (by simpa using hlt)
                                rw [List.length_map] at e
                                simp only [Value.slice.injEq] at e
                                obtain ⟨rfl, _, rfl⟩ := e
                                rw [List.getElem_map] at hcell
                                have hbd := bounds_u64 (F3.out _ (List.getElem_mem hlt))
                                have hdk : enc be8 (l3.drop k) ++ encT l4 = be8 (l3[k]).toNat ++ (enc be8 (l3.drop (k + 1)) ++ encT l4) := by
                                  rw [drop_cons l3 k hlt]
                                  simp only [enc, List.flatMap_cons, List.append_assoc]
                                rw [hdk] at hL
                                generalize l3[k] = n at *
                                have hnum := numS_be8 n.toNat (by omega) (enc be8 (l3.drop (k + 1)) ++ encT l4) 0
                                generalize hT : enc be8 (l3.drop (k + 1)) ++ encT l4 = T at *
                                have HT := Lib.hid hT; clear hT
                                have Hdk := Lib.hid hdk
                                have Hnum := Lib.hid hnum
                                clear hdk hnum
                                obtain ⟨v, hv, hn⟩ := hL.rd
                                have Hn := Lib.hid hn; clear hn
                                obtain ⟨h10, h11⟩ := hbd
                                go_wp2_with fail
                                refine (rquad_any d v _ 0 _ hv).mono ?_
                                rintro e wA ⟨rfl, hR⟩
                                rw [Hnum.out] at hR ⊢
                                dsimp only at hR ⊢
                                rw [show ((n.toNat : Nat) : Int) = n by omega]
                                have hnext := hL.next Hn.out hR
                                clear hL hR hv
                                go_wp2_with fail
                                go_roundg (l3.length - (k + 1))
                                case measure => omega
                                case rel => exact ⟨k + 1, by omega, rfl, by go_num, by rw [HT.out]; exact hnext⟩
                              · have hk : k = l3.length := by omega
                                rw [List.drop_eq_nil_of_le (by omega), show enc be8 [] = [] from rfl, List.nil_append] at hL
                                have hR0 := hL
                                clear hL hk hkl
                                go_wp2_with fail
                                go_loopg [160] l4.length (fun g i wr => ∃ k : Nat, k ≤ l4.length ∧ g = l4.length - k ∧ i = .int .i64 k ∧ Left w d (encT (l4.drop k)) wr)
                                case atStart => exact ⟨0, Nat.zero_le _, rfl, rfl, hR0⟩
                                case round =>
                                  clear hR0
                                  obtain ⟨k, hkl, rfl, rfl, hL⟩ := hrel
                                  by_cases hlt : k < l4.length
                                  · obtain ⟨g, off, cap, e, hcell⟩ := (s4.fr0 hL.fr).at (k := k) (by simpa using hlt)
                                    rw [List.length_map] at e
                                    simp only [Value.slice.injEq] at e
                                    obtain ⟨rfl, _, rfl⟩ := e
                                    rw [List.getElem_map] at hcell
                                    have hsz := Hs4.out _ (List.getElem_mem hlt)
                                    have hdk : encT (l4.drop k) = txt (l4[k]).data.toList ++ encT (l4.drop (k + 1)) := by
                                      rw [drop_cons l4 k hlt]
                                      simp only [encT, List.flatMap_cons]
                                    rw [hdk] at hL
                                    generalize l4[k] = s at *
                                    have hnum := textS_txt s.data.toList (encT (l4.drop (k + 1))) (by rw [show s.data.toList.length = s.size from rfl]; omega) s.size (by rw [show s.data.toList.length = s.size from rfl]; omega)
                                    generalize hT : encT (l4.drop (k + 1)) = T at *
                                    have HT := Lib.hid hT; clear hT
                                    have Hdk := Lib.hid hdk
                                    have Hnum := Lib.hid hnum
                                    clear hdk hnum
                                    obtain ⟨v, hv, hn⟩ := hL.rd
                                    have Hn := Lib.hid hn; clear hn
                                    go_wp2_with fail
                                    refine (rtext_any d v _ 0 _ _ hv).mono ?_
                                    rintro e wA ⟨rfl, hR⟩
                                    rw [Hnum.out] at hR ⊢
                                    dsimp only at hR ⊢
                                    rw [str_of]
                                    have hnext := hL.next Hn.out hR
                                    clear hL hR hv
                                    go_wp2_with fail
                                    go_roundg (l4.length - (k + 1))
                                    case measure => omega
                                    case rel => exact ⟨k + 1, by omega, rfl, by go_num, by rw [HT.out]; exact hnext⟩
                                  · rw [List.drop_eq_nil_of_le (by omega), show encT [] = [] from rfl] at hL
                                    have hR0 := hL
                                    clear hL hkl
                                    obtain ⟨v, hv, hn⟩ := hR0.rd
                                    have gx := hR0.fr
                                    clear hn hR0
                                    go_wp2_with (first | (go_at_call 23; refine (left_any d v [] 0 _ hv).mono ?_; rintro e1 w' ⟨rfl, rfl⟩) | (go_at_call 24; refine (end_any d v [] 0 _ hv).mono ?_; rintro e1 w' ⟨rfl, rfl⟩))
                                    go_ret
                                    exact ⟨rfl, gx⟩

set_option maxRecDepth 100000 in
set_option maxHeartbeats 1000000 in
theorem back_long (v1 : Value) (l1 : List Int) (v2 : Value) (l2 : List Int) (v3 : Value) (l3 : List Int) (v4 : Value) (l4 : List ByteArray) (w : World)
    (s1 : SeesL w v1 (l1.map (Value.int .u16))) (s2 : SeesL w v2 (l2.map (Value.int .u32)))
    (s3 : SeesL w v3 (l3.map (Value.int .u64))) (s4 : SeesL w v4 (l4.map Value.string)) (hlong : 30 < l1.length ∨ 30 < l2.length ∨ 30 < l3.length ∨ 30 < l4.length) :
    Calls Try.prog 3 #[v1, v2, v3, v4] w fun e w' => e = .returned (.bool true) ∧ Fr (fun _ => False) w w' := by
  obtain ⟨a1, k1, rfl⟩ := s1.shape
  obtain ⟨a2, k2, rfl⟩ := s2.shape
  obtain ⟨a3, k3, rfl⟩ := s3.shape
  obtain ⟨a4, k4, rfl⟩ := s4.shape
  rw [List.length_map] at *
  have key : ∀ m : Nat, decide ((30 : Int) < (m : Int)) = true ∨ decide ((30 : Int) < (m : Int)) = false := fun m => by cases decide ((30 : Int) < (m : Int)) <;> simp
  have h1 := key l1.length
  have h2 := key l2.length
  have h3 := key l3.length
  have h4 : (decide ((30 : Int) < (l1.length : Int)) = true) ∨ (decide ((30 : Int) < (l1.length : Int)) = false ∧ decide ((30 : Int) < (l2.length : Int)) = true) ∨ (decide ((30 : Int) < (l1.length : Int)) = false ∧ decide ((30 : Int) < (l2.length : Int)) = false ∧ decide ((30 : Int) < (l3.length : Int)) = true) ∨ (decide ((30 : Int) < (l1.length : Int)) = false ∧ decide ((30 : Int) < (l2.length : Int)) = false ∧ decide ((30 : Int) < (l3.length : Int)) = false ∧ decide ((30 : Int) < (l4.length : Int)) = true) := by
    simp only [decide_eq_true_eq, decide_eq_false_iff_not] at *
    omega
  clear h1 h2 h3 key hlong s1 s2 s3 s4
  rcases h4 with x1 | ⟨x1, x2⟩ | ⟨x1, x2, x3⟩ | ⟨x1, x2, x3, x4⟩
  all_goals
    go_enter Try.func3, Try.ntmps3
    go_wp2_with fail
    refine (awake_any _).mono ?_
    rintro e w1 ⟨rfl, g1⟩
    go_wp2_with fail
    go_ret
    exact ⟨rfl, g1⟩

theorem back_all {w : World} (v1 : Value) (l1 : List Int) (s1 : SeesL w v1 (l1.map (Value.int .u16))) (f1 : ∀ n ∈ l1, (Lit.int .u16 n).wf = true) (v2 : Value) (l2 : List Int) (s2 : SeesL w v2 (l2.map (Value.int .u32))) (f2 : ∀ n ∈ l2, (Lit.int .u32 n).wf = true)
    (v3 : Value) (l3 : List Int) (s3 : SeesL w v3 (l3.map (Value.int .u64))) (f3 : ∀ n ∈ l3, (Lit.int .u64 n).wf = true) (v4 : Value) (l4 : List ByteArray) (s4 : SeesL w v4 (l4.map Value.string)) :
    Calls Try.prog 3 #[v1, v2, v3, v4] w fun e w' => e = .returned (.bool true) ∧ Fr (fun _ => False) w w' := by
  by_cases h : l1.length ≤ 30 ∧ l2.length ≤ 30 ∧ l3.length ≤ 30 ∧ l4.length ≤ 30
  · exact back_any v1 l1 v2 l2 v3 l3 v4 l4 w s1 f1 s2 f2 s3 f3 s4 h.1 h.2.1 h.2.2.1 h.2.2.2
  · exact back_long v1 l1 v2 l2 v3 l3 v4 l4 w s1 s2 s3 s4 (by omega)


end Go.Proofs.Ytcnflbofohakjaa
