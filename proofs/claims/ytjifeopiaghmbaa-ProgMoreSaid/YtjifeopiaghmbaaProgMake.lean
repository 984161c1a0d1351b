/-
  The laws' Program: whatever small instructions come in, it makes a program that may be.
-/
import Derived.Test.YtjifeopiaghmbaaProgCheck
import Derived.BigRegion
namespace Go.Proofs.Ytjifeopiaghmbaa
open Go.RowKit
set_option linter.unusedVariables false

structure Sm where
  op : Nat
  dst : Nat
  a : Nat
  b : Nat
  n : Int
  raw : Bool

structure Sm.Fits (x : Sm) : Prop where
  op : x.op ≤ 255
  dst : x.dst ≤ 255
  a : x.a ≤ 255
  b : x.b ≤ 255
  lo : -32768 ≤ x.n
  hi : x.n ≤ 32767

def SmAt (w : World) (g off : Nat) (l : List Sm) : Prop :=
  ∀ i x, l[i]? = some x → x.Fits ∧ w.cell? ⟨g, off + i * 6, none⟩ = some (.int .u8 x.op) ∧ w.cell? ⟨g, off + i * 6 + 1, none⟩ = some (.int .u8 x.dst) ∧ w.cell? ⟨g, off + i * 6 + 2, none⟩ = some (.int .u8 x.a) ∧
    w.cell? ⟨g, off + i * 6 + 3, none⟩ = some (.int .u8 x.b) ∧ w.cell? ⟨g, off + i * 6 + 4, none⟩ = some (.int .i16 x.n) ∧ w.cell? ⟨g, off + i * 6 + 5, none⟩ = some (.bool x.raw)

/-- The slice v shows these small instructions. -/
def SmSees (w : World) (v : Value) (l : List Sm) : Prop :=
  l.length ≤ maxLen ∧ ((l = [] ∧ ∃ a c, v = .slice a 0 c) ∨ ∃ g off cap, v = .slice (some ⟨g, off, none⟩) l.length cap ∧ l.length ≤ cap ∧ SmAt w g off l)

theorem SmAt.fr0 {w w' : World} {g off : Nat} {l : List Sm} (h : SmAt w g off l) (hf : Fr (fun _ => False) w w') : SmAt w' g off l := by
  intro i x hx
  obtain ⟨h0, h1, h2, h3, h4, h5, h6⟩ := h i x hx
  exact ⟨h0, cell_fr0 hf h1, cell_fr0 hf h2, cell_fr0 hf h3, cell_fr0 hf h4, cell_fr0 hf h5, cell_fr0 hf h6⟩

theorem SmSees.fr0 {w w' : World} {v : Value} {l : List Sm} (h : SmSees w v l) (hf : Fr (fun _ => False) w w') : SmSees w' v l := by
  obtain ⟨h1, h | ⟨g, off, cap, rfl, hle, hc⟩⟩ := h
  · exact ⟨h1, .inl h⟩
  · exact ⟨h1, .inr ⟨g, off, cap, rfl, hle, hc.fr0 hf⟩⟩

theorem SmSees.shape {w : World} {v : Value} {l : List Sm} (h : SmSees w v l) : ∃ a c, v = .slice a l.length c ∧ (l = [] ∨ ∃ g off, a = some ⟨g, off, none⟩ ∧ l.length ≤ c ∧ SmAt w g off l) := by
  obtain ⟨_, ⟨rfl, a, c, rfl⟩ | ⟨g, off, cap, rfl, hle, hc⟩⟩ := h
  · exact ⟨a, c, rfl, .inl rfl⟩
  · exact ⟨_, cap, rfl, .inr ⟨g, off, rfl, hle, hc⟩⟩

theorem and_small (n : Int) (m : Nat) (hm : m ≤ 32767) : 0 ≤ bits .and .i16 n m ∧ bits .and .i16 n m ≤ m := by
  have h2 : (BitVec.ofInt IntKind.i16.bits (m : Int)).toNat = m := by
    show (BitVec.ofInt 16 (m : Int)).toNat = m
    simp; omega
  have h1 : (BitVec.ofInt IntKind.i16.bits n &&& BitVec.ofInt IntKind.i16.bits (m : Int)).toNat ≤ m := by
    rw [BitVec.toNat_and]
    exact Nat.le_trans Nat.and_le_right (by omega)
  have h3 : bits .and .i16 n m = IntKind.i16.wrap ((BitVec.ofInt IntKind.i16.bits n &&& BitVec.ofInt IntKind.i16.bits (m : Int)).toNat : Int) := rfl
  generalize (BitVec.ofInt IntKind.i16.bits n &&& BitVec.ofInt IntKind.i16.bits (m : Int)).toNat = q at h1 h3
  have h4 : IntKind.i16.wrap (q : Int) = q := by
    simp [IntKind.wrap, IntKind.bits, IntKind.signed]; omega
  rw [h3, h4]
  omega

theorem sees_one {w : World} {g : Nat} {cs : Array Value} {t : TypeId} {f : Nat × Nat} (h : w.heap[g]? = some (.cells cs t f)) (x : Ins) (hf : x.Fits) (hc : cs.toList = insC x) : PSees w (.slice (some ⟨g, 0, none⟩) 1 1) [x] := by
  have hcs : cs = (insC x).toArray := Array.ext' (by rw [hc])
  subst hcs
  have key : ∀ j u, (insC x)[j]? = some u → w.cell? ⟨g, j, none⟩ = some u := by
    intro j u hu
    rw [cell_of_row w g j _ t f h]
    simpa using hu
  refine .inr ⟨g, 1, rfl, by simp, fun i y hy => ?_⟩
  match i with
  | 0 => cases hy; exact ⟨hf, key 0 _ rfl, key 1 _ rfl, key 2 _ rfl, key 3 _ rfl, key 4 _ rfl⟩
  | i + 1 => cases hy

theorem pre_snoc {l : List Ins} {x : Ins} (h : ∀ y ∈ l, Pre y) (hx : Pre x) : ∀ y ∈ l ++ [x], Pre y := by
  intro y hy
  rcases List.mem_append.1 hy with h1 | h1
  · exact h y h1
  · rw [List.mem_singleton.1 h1]; exact hx

theorem PTold.frozen {w wr : World} {g n cap : Nat} {l : List Ins} (h : PTold w wr (.slice (some ⟨g, 0, none⟩) n cap) l) (k : Nat) : wr.frozen? ⟨g, k, none⟩ = false := by
  obtain ⟨_, ⟨e, _⟩ | ⟨g', cap', cur, e, hb, hg, _⟩⟩ := h.1
  · cases e
  · simp at e
    obtain ⟨rfl, _⟩ := e
    simp [World.frozen?, hg]

theorem PTold.sees {w wr : World} {v : Value} {l : List Ins} (h : PTold w wr v l) (hp : ∀ x ∈ l, Pre x) : PSees wr v l := h.1.sees (fun x hx => (hp x hx).fits)

theorem PTold.at_ {w wr : World} {g n cap : Nat} {l : List Ins} (h : PTold w wr (.slice (some ⟨g, 0, none⟩) n cap) l) (hp : ∀ x ∈ l, Pre x) : PAt wr g l := by
  rcases h.sees hp with ⟨rfl, _⟩ | ⟨g', cap', e, _, hat⟩
  · intro i x hx; simp at hx
  · simp at e
    obtain ⟨rfl, _⟩ := e
    exact hat

theorem PTold.shape {w wr : World} {v : Value} {l : List Ins} (h : PTold w wr v l) : ∃ a c, v = .slice a l.length c ∧ (l.length = 0 ∨ ∃ g, a = some ⟨g, 0, none⟩ ∧ l.length ≤ c ∧ w.heap.size ≤ g) := by
  obtain ⟨⟨_, ⟨rfl, e⟩ | ⟨g, cap, cur, rfl, _, hg, hle, _⟩⟩, _, hk⟩ := h
  · exact ⟨none, 0, by rw [e], .inl e⟩
  · exact ⟨_, cap, rfl, .inr ⟨g, rfl, hle, hk g rfl⟩⟩

theorem pre_set {l : List Ins} (h : ∀ y ∈ l, Pre y) (i : Nat) : ∀ y ∈ l.set i ⟨2, 0, 0, 0, 0⟩, Pre y := by
  intro y hy
  rcases List.mem_or_eq_of_mem_set hy with h1 | rfl
  · exact h y h1
  · exact ⟨⟨by decide, by decide, by decide, by decide, by decide, by decide⟩, by decide, by decide, by decide, .inr (by decide), fun h => by cases h⟩

theorem op_cases (o : Nat) : (o = 9) ∨ (o = 8) ∨ (((o : Int) == 9) = false ∧ ((o : Int) == 8) = false) := by
  by_cases h : o = 9
  · exact .inl h
  · by_cases h' : o = 8
    · exact .inr (.inl h')
    · exact .inr (.inr (by constructor <;> (simp; omega)))

theorem sees_take {w : World} {g N cap i : Nat} {l : List Ins} (h : PAt w g l) (hl : l.length = N) (hi : i < N) (hc : N ≤ cap) : PSees w (.slice (some ⟨g, 0, none⟩) (i + 1) cap) (l.take (i + 1)) :=
  .inr ⟨g, cap, by rw [List.length_take]; congr 1; omega, by rw [List.length_take]; omega, h.take _⟩

theorem own_empty (w : World) : POwn (w.alloc (.cells #[] 34)) (.slice (some ⟨w.heap.size, 0, none⟩) 0 0) [] :=
  ⟨rfl, .inr ⟨w.heap.size, 0, #[], rfl, Nat.zero_le _, heap_alloc_new w _, Nat.le_refl _, by unfold maxLen; omega, rfl, rfl⟩⟩

theorem fr_append {w w' : World} {o : Obj} {n c : Nat} (h : (w.alloc o).grownBy w' (Value.ownBlock (.slice (some ⟨w.heap.size, 0, none⟩) n c))) : Fr (fun _ => False) w w' :=
  ((Fr.refl _ _).alloc _).trans (Fr.of_grown h) (fun i hi e => by simp [Value.ownBlock] at e; omega)

set_option maxRecDepth 100000 in
set_option maxHeartbeats 16000000 in
theorem program_any (sm : List Sm) (v : Value) (w : World) (h : SmSees w v sm) :
    Calls Try.prog 6 #[v] w fun e w' => ∃ v' l, e = .returned v' ∧ PTold w w' v' l ∧ l.length ≤ 16 ∧ l.length ≤ sm.length ∧ (∀ x ∈ l, x.Fits) ∧ checkE l = 0 := by
  have hm := h.1
  unfold maxLen at hm
  obtain ⟨a, cap, rfl, hs⟩ := h.shape
  have Hs := Lib.hid hs
  clear h hs
  go_enter Try.func6, Try.ntmps6
  go_wp2
  go_loopg [3, 4, 5, 6, 14] sm.length (fun G u3 u4 u5 u6 u14 wr => ∃ (k : Nat) (l : List Ins), k ≤ sm.length ∧ G = sm.length - k ∧ u14 = .int .i64 k ∧ Hid (PTold w wr u3 l ∧ l.length ≤ k ∧ l.length ≤ 16 ∧ ∀ x ∈ l, Pre x))
  case atStart => exact ⟨0, [], Nat.zero_le _, rfl, rfl, Lib.hid ⟨⟨POwn.nil _, Fr.refl _ _, by simp [Value.ownBlock]⟩, Nat.le_refl _, by simp, by simp⟩⟩
  case round =>
    obtain ⟨k, l, hk, rfl, rfl, HI⟩ := hrel
    by_cases hlt : k < sm.length
    · rcases Hs.out with rfl | ⟨g, off, rfl, hcap, hat⟩
      · simp at hlt
      obtain ⟨x, hx⟩ : ∃ x, sm[k]? = some x := ⟨_, List.getElem?_eq_getElem hlt⟩
      obtain ⟨hf, c0, c1, c2, c3, c4, c5⟩ := hat.fr0 HI.out.1.2.1 k x hx
      obtain ⟨f1, f2, f3, f4, f5, f6⟩ := hf
      clear hx hat
      obtain ⟨op, dst, aa, b, n, raw⟩ := x
      dsimp only at *
      by_cases h16 : k < 16
      · obtain ⟨o, ho, ho12⟩ : ∃ o : Nat, (op : Int) % 12 = o ∧ o < 12 := ⟨op % 12, by omega, by omega⟩
        obtain ⟨d, hd, hd16⟩ : ∃ o : Nat, (dst : Int) % 16 = o ∧ o < 16 := ⟨dst % 16, by omega, by omega⟩
        obtain ⟨a1, ha, ha16⟩ : ∃ o : Nat, (aa : Int) % 16 = o ∧ o < 16 := ⟨aa % 16, by omega, by omega⟩
        obtain ⟨b1, hb, hb16⟩ : ∃ o : Nat, (b : Int) % 16 = o ∧ o < 16 := ⟨b % 16, by omega, by omega⟩
        by_cases h9 : o = 9
        · subst h9
          obtain ⟨m, hm7, hm0, hm8⟩ : ∃ m : Int, bits .and .i16 n 7 = m ∧ 0 ≤ m ∧ m ≤ 7 := ⟨_, rfl, and_small n 7 (by omega)⟩
          obtain ⟨b4, hb4, hb5⟩ : ∃ q : Nat, Int.tmod b 4 = q ∧ q < 4 := ⟨b % 4, (Int.ofNat_tmod b 4).symm, by omega⟩
          have hb6 : (b : Int) % 4 = b4 := by rw [← hb4]; rfl
          have HP : Hid (Pre ⟨9, d, a1, 1 + b4, 1 + m⟩) := Lib.hid ⟨⟨by show 9 ≤ 255; omega, by show d ≤ 255; omega, by show a1 ≤ 255; omega, by show 1 + b4 ≤ 255; omega, by show -32768 ≤ 1 + m; omega, by show 1 + m ≤ 32767; omega⟩, ho12, hd16, ha16, .inl rfl, fun h => absurd h (by simp)⟩
          clear ho12
          go_wp2
          go_region
          go_wp2_with (at_builtin; refine wpList_append_ins rfl (.tmp 63) (.tmp 65) rfl u3 l rfl ?own _ [⟨9, d, a1, 1 + b4, 1 + m⟩] rfl ?src ?len ?grow)
          case own => exact HI.out.1.1.fr (S := fun _ => False) (by (repeat first | exact Fr.refl _ _ | refine Fr.drew ?_ | refine Fr.alloc ?_ _ | refine Fr.setCell ?_ (fun h => absurd h (by simp)) _)) (fun _ _ h => h)
          case src => exact (sees_one (new_three wr _ _ _) _ HP.out.fits rfl).fr ((Fr.refl _ _).drew) (fun _ _ h => h)
          case len => have := HI.out.2.1; simp; omega
          case grow =>
            intro v' w3 hown' hgrow hcase
            have HO := Lib.hid (HI.out.1.append (by (repeat first | exact Fr.refl _ _ | refine Fr.drew ?_ | refine Fr.alloc ?_ _ | refine Fr.setCell ?_ (fun h => absurd h (by simp)) _)) hown' hgrow hcase (by omega))
            clear hown' hgrow hcase
            go_wp2
            go_roundg (sm.length - (k + 1))
            case measure => omega
            case rel => exact ⟨k + 1, _, by omega, rfl, by go_num, Lib.hid ⟨HO.out, by have := HI.out.2.1; simp; omega, by have := HI.out.2.1; simp; omega, pre_snoc HI.out.2.2.2 HP.out⟩⟩
        · by_cases h8 : o = 8
          · subst h8
            obtain ⟨m, hm7, hm0, hm8⟩ : ∃ m : Int, bits .and .i16 n 3 = m ∧ 0 ≤ m ∧ m ≤ 3 := ⟨_, rfl, and_small n 3 (by omega)⟩
            have HP : Hid (Pre ⟨8, d, a1, b1, 1 + m⟩) := Lib.hid ⟨⟨by show 8 ≤ 255; omega, by show d ≤ 255; omega, by show a1 ≤ 255; omega, by show b1 ≤ 255; omega, by show -32768 ≤ 1 + m; omega, by show 1 + m ≤ 32767; omega⟩, ho12, hd16, ha16, .inr hb16, fun h => absurd h (by simp)⟩
            clear h9 ho12
            go_wp2_with (at_builtin; refine wpList_append_ins rfl (.tmp 63) (.tmp 65) rfl u3 l rfl ?own _ [⟨8, d, a1, b1, 1 + m⟩] rfl ?src ?len ?grow)
            case own => exact HI.out.1.1.fr (S := fun _ => False) (by (repeat first | exact Fr.refl _ _ | refine Fr.drew ?_ | refine Fr.alloc ?_ _ | refine Fr.setCell ?_ (fun h => absurd h (by simp)) _)) (fun _ _ h => h)
            case src => exact sees_one (new_three wr _ _ _) _ HP.out.fits rfl
            case len => have := HI.out.2.1; simp; omega
            case grow =>
              intro v' w3 hown' hgrow hcase
              have HO := Lib.hid (HI.out.1.append (by (repeat first | exact Fr.refl _ _ | refine Fr.drew ?_ | refine Fr.alloc ?_ _ | refine Fr.setCell ?_ (fun h => absurd h (by simp)) _)) hown' hgrow hcase (by omega))
              clear hown' hgrow hcase
              go_wp2
              go_roundg (sm.length - (k + 1))
              case measure => omega
              case rel => exact ⟨k + 1, _, by omega, rfl, by go_num, Lib.hid ⟨HO.out, by have := HI.out.2.1; simp; omega, by have := HI.out.2.1; simp; omega, pre_snoc HI.out.2.2.2 HP.out⟩⟩
          · by_cases h10 : o = 10
            · subst h10
              obtain ⟨m, hm7, hm0, hm8⟩ : ∃ m : Int, bits .and .i16 n 31 = m ∧ 0 ≤ m ∧ m ≤ 31 := ⟨_, rfl, and_small n 31 (by omega)⟩
              have HP : Hid (Pre ⟨10, d, a1, b1, m⟩) := Lib.hid ⟨⟨by show 10 ≤ 255; omega, by show d ≤ 255; omega, by show a1 ≤ 255; omega, by show b1 ≤ 255; omega, by show -32768 ≤ m; omega, by show m ≤ 32767; omega⟩, ho12, hd16, ha16, .inr hb16, fun _ => hm0⟩
              clear h9 h8 ho12
              go_wp2_with (at_builtin; refine wpList_append_ins rfl (.tmp 63) (.tmp 65) rfl u3 l rfl ?own _ [⟨10, d, a1, b1, m⟩] rfl ?src ?len ?grow)
              case own => exact HI.out.1.1.fr (S := fun _ => False) (by (repeat first | exact Fr.refl _ _ | refine Fr.drew ?_ | refine Fr.alloc ?_ _ | refine Fr.setCell ?_ (fun h => absurd h (by simp)) _)) (fun _ _ h => h)
              case src => exact sees_one (new_three wr _ _ _) _ HP.out.fits rfl
              case len => have := HI.out.2.1; simp; omega
              case grow =>
                intro v' w3 hown' hgrow hcase
                have HO := Lib.hid (HI.out.1.append (by (repeat first | exact Fr.refl _ _ | refine Fr.drew ?_ | refine Fr.alloc ?_ _ | refine Fr.setCell ?_ (fun h => absurd h (by simp)) _)) hown' hgrow hcase (by omega))
                clear hown' hgrow hcase
                go_wp2
                go_roundg (sm.length - (k + 1))
                case measure => omega
                case rel => exact ⟨k + 1, _, by omega, rfl, by go_num, Lib.hid ⟨HO.out, by have := HI.out.2.1; simp; omega, by have := HI.out.2.1; simp; omega, pre_snoc HI.out.2.2.2 HP.out⟩⟩
            · have e9 : ((o : Int) == 9) = false := by simp; omega
              have e8 : ((o : Int) == 8) = false := by simp; omega
              have e10 : ((o : Int) == 10) = false := by simp; omega
              have HP : Hid (Pre ⟨o, d, a1, b1, n⟩) := Lib.hid ⟨⟨by show o ≤ 255; omega, by show d ≤ 255; omega, by show a1 ≤ 255; omega, by show b1 ≤ 255; omega, f5, f6⟩, ho12, hd16, ha16, .inr hb16, fun h => absurd h h10⟩
              clear h9 h8 h10
              go_wp2_with (at_builtin; refine wpList_append_ins rfl (.tmp 63) (.tmp 65) rfl u3 l rfl ?own _ [⟨o, d, a1, b1, n⟩] rfl ?src ?len ?grow)
              case own => exact HI.out.1.1.fr (S := fun _ => False) (by (repeat first | exact Fr.refl _ _ | refine Fr.drew ?_ | refine Fr.alloc ?_ _ | refine Fr.setCell ?_ (fun h => absurd h (by simp)) _)) (fun _ _ h => h)
              case src => exact sees_one (new_three wr _ _ _) _ HP.out.fits rfl
              case len => have := HI.out.2.1; simp; omega
              case grow =>
                intro v' w3 hown' hgrow hcase
                have HO := Lib.hid (HI.out.1.append (by (repeat first | exact Fr.refl _ _ | refine Fr.drew ?_ | refine Fr.alloc ?_ _ | refine Fr.setCell ?_ (fun h => absurd h (by simp)) _)) hown' hgrow hcase (by omega))
                clear hown' hgrow hcase
                go_wp2
                go_roundg (sm.length - (k + 1))
                case measure => omega
                case rel => exact ⟨k + 1, _, by omega, rfl, by go_num, Lib.hid ⟨HO.out, by have := HI.out.2.1; simp; omega, by have := HI.out.2.1; simp; omega, pre_snoc HI.out.2.2.2 HP.out⟩⟩
      · have FB := Lib.hid (HI.out.1.fr (((Fr.refl (fun _ => False) wr).alloc (.cells #[.int .u8 op, .int .u8 dst, .int .u8 aa, .int .u8 b, .int .i16 n, .bool raw] 37))))
        go_wp2
        go_roundg (sm.length - (k + 1))
        case measure => omega
        case rel => exact ⟨k + 1, l, by omega, rfl, by go_num, Lib.hid ⟨FB.out, by have := HI.out.2.1; omega, HI.out.2.2⟩⟩
    · obtain rfl : k = sm.length := by omega
      have hN : l.length ≤ 16 := HI.out.2.2.1
      have hNs : l.length ≤ sm.length := HI.out.2.1
      obtain ⟨a3, c3, rfl, hS3⟩ := HI.out.1.shape
      obtain ⟨N, hNe⟩ : ∃ N, l.length = N := ⟨_, rfl⟩
      have H1 := HI.out.1
      rw [hNe] at hN hNs hS3 H1
      have HS3 := Lib.hid hS3
      have H1 := Lib.hid (show PTold w wr (.slice a3 N c3) l ∧ l.length = N ∧ ∀ x ∈ l, Pre x from ⟨H1, hNe, HI.out.2.2.2⟩)
      rw [hNe]
      clear hS3 HI Hs hNe
      go_wp2
      go_loopg [7, 8, 9, 10, 68] 40 (fun G u7 u8 u9 u10 u68 wr => ∃ (j : Nat) (l2 : List Ins), j ≤ 40 ∧ G = 40 - j ∧ u68 = .int .i64 j ∧ Hid (PTold w wr (.slice a3 N c3) l2 ∧ l2.length = N ∧ ∀ x ∈ l2, Pre x))
      case atStart => exact ⟨0, l, Nat.zero_le _, rfl, rfl, H1⟩
      case round =>
        obtain ⟨j, l2, hj, rfl, rfl, H2⟩ := hrel
        clear H1
        by_cases hlt2 : j < 40
        · have hd40 : decide ((j : Int) < 40) = true := by simp; omega
          have HL := Lib.hid hlt2
          clear hlt2
          go_wp2
          clear hd40
          go_loopg [7, 8, 9, 10, 72] N (fun G u7 u8 u9 u10 u72 wx => ∃ (i : Nat) (bad : Int), i ≤ N ∧ G = N - i ∧ u72 = .int .i64 i ∧ u7 = .int .i64 bad ∧ -1 ≤ bad ∧ bad < N ∧ Hid (PTold w wx (.slice a3 N c3) l2 ∧ l2.length = N ∧ ∀ x ∈ l2, Pre x))
          case atStart => exact ⟨0, -1, Nat.zero_le _, rfl, rfl, rfl, by omega, by omega, H2⟩
          case round =>
            obtain ⟨i, bad, hi, rfl, rfl, rfl, hb0, hb1, HJ⟩ := hrel
            obtain ⟨wx, rfl⟩ : ∃ wx : World, wx = wr := ⟨_, rfl⟩
            clear H2
            by_cases hlt3 : i < N
            · rcases HS3.out with hz | ⟨g3, rfl, hcap3, hold⟩
              · omega
              by_cases hbn : bad < 0
              · obtain rfl : bad = -1 := by omega
                have HC := Lib.hid (check_any l2 _ wx (by have := HJ.out.2.1; omega) (HJ.out.1.sees HJ.out.2.2))
                have hle := checkE_le l2
                obtain ⟨x, hx⟩ : ∃ x, l2[i]? = some x := ⟨_, List.getElem?_eq_getElem (by have := HJ.out.2.1; omega)⟩
                have hat := HJ.out.1.at_ HJ.out.2.2
                obtain ⟨hf, c0, -, -, -, -⟩ := hat i x hx
                have hop := hf.op
                have HX := Lib.hid hx
                clear hat hf hx
                obtain ⟨op, xd, xa, xb, xn⟩ := x
                dsimp only at *
                generalize checkE l2 = E at HC hle
                by_cases hE : E = 0
                · subst hE
                  go_wp2_with fail
                  refine HC.out.mono ?_
                  rintro r w1 ⟨rfl, q1⟩
                  have Q1 := Lib.hid q1
                  go_wp2
                  go_roundg (N - (i + 1))
                  case measure => omega
                  case rel => exact ⟨i + 1, -1, by omega, rfl, by go_num, rfl, by omega, by omega, Lib.hid ⟨HJ.out.1.fr Q1.out, HJ.out.2⟩⟩
                · have e0 : ((E : Int) == 0) = false := by simp; omega
                  have e1 : ((E : Int) != 0) = true := by simp; omega
                  clear hE
                  rcases op_cases op with rfl | rfl | ⟨e9, e8⟩
                  · go_wp2_with fail
                    refine HC.out.mono ?_
                    rintro r w1 ⟨rfl, q1⟩
                    have Q1 := Lib.hid q1
                    clear q1
                    go_wp2_with (at_builtin; refine wpList_append_ins rfl (.tmp 95) (.tmp 99) rfl (.slice (some ⟨w1.heap.size, 0, none⟩) 0 0) [] rfl (own_empty w1) (.slice (some ⟨g3, 0, none⟩) (i + 1) c3) (l2.take (i + 1)) rfl ?src ?len ?grow)
                    case src => exact sees_take ((HJ.out.1.at_ HJ.out.2.2).fr (Q1.out.alloc _) (fun h => h)) HJ.out.2.1 (by omega) hcap3
                    case len => rw [List.length_nil, List.length_take]; omega
                    case grow =>
                      intro v' w3 hown' hgrow hcase
                      have Q3 := Lib.hid (Q1.out.trans (fr_append hgrow) (fun _ _ h => h))
                      have HO := Lib.hid hown'
                      clear hown' hgrow hcase
                      go_wp2
                      go_roundg (N - (i + 1))
                      case measure => omega
                      case rel => exact ⟨i + 1, i, by omega, rfl, by go_num, rfl, by omega, by omega, Lib.hid ⟨HJ.out.1.fr Q3.out, HJ.out.2⟩⟩
                  · go_wp2_with fail
                    refine HC.out.mono ?_
                    rintro r w1 ⟨rfl, q1⟩
                    have Q1 := Lib.hid q1
                    clear q1
                    go_wp2_with (at_builtin; refine wpList_append_ins rfl (.tmp 95) (.tmp 99) rfl (.slice (some ⟨w1.heap.size, 0, none⟩) 0 0) [] rfl (own_empty w1) (.slice (some ⟨g3, 0, none⟩) (i + 1) c3) (l2.take (i + 1)) rfl ?src ?len ?grow)
                    case src => exact sees_take ((HJ.out.1.at_ HJ.out.2.2).fr (Q1.out.alloc _) (fun h => h)) HJ.out.2.1 (by omega) hcap3
                    case len => rw [List.length_nil, List.length_take]; omega
                    case grow =>
                      intro v' w3 hown' hgrow hcase
                      have Q3 := Lib.hid (Q1.out.trans (fr_append hgrow) (fun _ _ h => h))
                      have HO := Lib.hid hown'
                      clear hown' hgrow hcase
                      have HK := Lib.hid (check_any (l2.take (i + 1)) v' w3 (by rw [List.length_take]; omega) (POwn.sees HO.out (fun x hx => (HJ.out.2.2 x (List.mem_of_mem_take hx)).fits)))
                      have hle2 := checkE_le (l2.take (i + 1))
                      generalize checkE (l2.take (i + 1)) = E2 at HK hle2
                      by_cases hE2 : E2 = 0
                      · subst hE2
                        by_cases hlast : i + 1 = N
                        · have el : ((i : Int) == (N : Int) - 1) = true := by simp; omega
                          clear hlast
                          go_wp2_with fail
                          refine HK.out.mono ?_
                          rintro r w4 ⟨rfl, q4⟩
                          have Q4 := Lib.hid (Q3.out.trans q4 (fun _ _ h => h))
                          go_wp2
                          go_roundg (N - (i + 1))
                          case measure => omega
                          case rel => exact ⟨i + 1, i, by omega, rfl, by go_num, rfl, by omega, by omega, Lib.hid ⟨HJ.out.1.fr Q4.out, HJ.out.2⟩⟩
                        · have el : ((i : Int) == (N : Int) - 1) = false := by simp; omega
                          clear hlast
                          go_wp2_with fail
                          refine HK.out.mono ?_
                          rintro r w4 ⟨rfl, q4⟩
                          have Q4 := Lib.hid (Q3.out.trans q4 (fun _ _ h => h))
                          go_wp2
                          go_roundg (N - (i + 1))
                          case measure => omega
                          case rel => exact ⟨i + 1, -1, by omega, rfl, by go_num, rfl, by omega, by omega, Lib.hid ⟨HJ.out.1.fr Q4.out, HJ.out.2⟩⟩
                      · have k0 : ((E2 : Int) == 0) = false := by simp; omega
                        have k1 : ((E2 : Int) != 0) = true := by simp; omega
                        clear hE2
                        go_wp2_with fail
                        refine HK.out.mono ?_
                        rintro r w4 ⟨rfl, q4⟩
                        have Q4 := Lib.hid (Q3.out.trans q4 (fun _ _ h => h))
                        go_wp2
                        go_roundg (N - (i + 1))
                        case measure => omega
                        case rel => exact ⟨i + 1, i, by omega, rfl, by go_num, rfl, by omega, by omega, Lib.hid ⟨HJ.out.1.fr Q4.out, HJ.out.2⟩⟩
                  · go_wp2_with fail
                    refine HC.out.mono ?_
                    rintro r w1 ⟨rfl, q1⟩
                    have Q1 := Lib.hid q1
                    clear q1
                    go_wp2
                    go_roundg (N - (i + 1))
                    case measure => omega
                    case rel => exact ⟨i + 1, -1, by omega, rfl, by go_num, rfl, by omega, by omega, Lib.hid ⟨HJ.out.1.fr Q1.out, HJ.out.2⟩⟩
              · have HC := HJ
                obtain ⟨x, hx⟩ : ∃ x, l2[i]? = some x := ⟨_, List.getElem?_eq_getElem (by have := HJ.out.2.1; omega)⟩
                have hat := HJ.out.1.at_ HJ.out.2.2
                obtain ⟨hf, c0, -, -, -, -⟩ := hat i x hx
                have hop := hf.op
                have HX := Lib.hid hx
                clear hat hf hx
                obtain ⟨op, xd, xa, xb, xn⟩ := x
                dsimp only at *
                go_wp2
                go_roundg (N - (i + 1))
                case measure => omega
                case rel => exact ⟨i + 1, bad, by omega, rfl, by go_num, rfl, by omega, by omega, Lib.hid ⟨HJ.out.1.fr (Fr.refl _ _), HJ.out.2⟩⟩
            · obtain rfl : N = i := by omega
              by_cases hbn : bad < 0
              · have H2 := HJ
                go_wp2
                go_loopg [11, 126] N (fun G u11 u126 wr => ∃ (i : Nat) (l3 : List Ins), i ≤ N ∧ G = N - i ∧ u126 = .int .i64 i ∧ Hid (PTold w wr (.slice a3 N c3) l3 ∧ l3.length = N ∧ (∀ x ∈ l3, Pre x) ∧ (checkE l3 = 0 ∨ ∀ j x, j < i → l3[j]? = some x → x.op ≠ 8 ∧ x.op ≠ 9)))
                case atStart => exact ⟨0, l2, Nat.zero_le _, rfl, rfl, Lib.hid ⟨H2.out.1, H2.out.2.1, H2.out.2.2, .inr (fun j x hj => by omega)⟩⟩
                case round =>
                  obtain ⟨i, l3, hi, rfl, rfl, H3⟩ := hrel
                  by_cases hlt3 : i < N
                  · rcases HS3.out with hz | ⟨g3, rfl, hcap3, hold⟩
                    · omega
                    have HC := Lib.hid (check_any l3 _ wr (by have := H3.out.2.1; omega) (H3.out.1.sees H3.out.2.2.1))
                    have hle := checkE_le l3
                    obtain ⟨x, hx⟩ : ∃ x, l3[i]? = some x := ⟨_, List.getElem?_eq_getElem (by have := H3.out.2.1; omega)⟩
                    have hat := H3.out.1.at_ H3.out.2.2.1
                    obtain ⟨hf, c0, -, -, -, -⟩ := hat i x hx
                    have hop := hf.op
                    have HX := Lib.hid hx
                    clear hat hf hx
                    obtain ⟨op, xd, xa, xb, xn⟩ := x
                    dsimp only at *
                    by_cases hE : checkE l3 = 0
                    · rw [hE] at HC
                      have HE := Lib.hid hE
                      clear hE hle
                      go_wp2_with fail
                      refine HC.out.mono ?_
                      rintro r w1 ⟨rfl, q1⟩
                      have Q1 := Lib.hid q1
                      go_wp2
                      go_roundg (N - (i + 1))
                      case measure => omega
                      case rel => exact ⟨i + 1, l3, by omega, rfl, by go_num, Lib.hid ⟨H3.out.1.fr Q1.out, H3.out.2.1, H3.out.2.2.1, .inl HE.out⟩⟩
                    · have HN := Lib.hid hE
                      obtain ⟨E, hEE⟩ : ∃ E, E = checkE l3 := ⟨_, rfl⟩
                      rw [← hEE] at HC hE hle
                      have e0 : ((E : Int) == 0) = false := by simp; omega
                      have e1 : ((E : Int) != 0) = true := by simp; omega
                      clear hE hEE
                      have store : ∀ w1, Fr (fun _ => False) wr w1 → PTold w (setIns w1 g3 i ⟨2, 0, 0, 0, 0⟩) (.slice (some ⟨g3, 0, none⟩) N c3) (l3.set i ⟨2, 0, 0, 0, 0⟩) ∧ (l3.set i ⟨2, 0, 0, 0, 0⟩).length = N ∧ (∀ x ∈ l3.set i ⟨2, 0, 0, 0, 0⟩, Pre x) ∧
                          (checkE (l3.set i ⟨2, 0, 0, 0, 0⟩) = 0 ∨ ∀ j x, j < i + 1 → (l3.set i ⟨2, 0, 0, 0, 0⟩)[j]? = some x → x.op ≠ 8 ∧ x.op ≠ 9) := by
                        intro w1 f
                        refine ⟨(H3.out.1.fr f).set i (by have := H3.out.2.1; omega) _, by rw [List.length_set]; exact H3.out.2.1, pre_set H3.out.2.2.1 i, .inr (fun j x hj hx => ?_)⟩
                        rw [List.getElem?_set] at hx
                        by_cases hij : i = j
                        · subst hij
                          rw [if_pos rfl, if_pos (by have := H3.out.2.1; omega)] at hx
                          cases hx
                          exact ⟨by decide, by decide⟩
                        · rw [if_neg hij] at hx
                          rcases H3.out.2.2.2 with h | h
                          · exact absurd h HN.out
                          · exact h j x (by omega) hx
                      have HST := Lib.hid store
                      clear store
                      rcases op_cases op with rfl | rfl | ⟨e9, e8⟩
                      · go_wp2_with fail
                        refine HC.out.mono ?_
                        rintro r w1 ⟨rfl, q1⟩
                        have Q1 := Lib.hid q1
                        replace c0 := cell_fr0 q1 c0
                        have z0 := (H3.out.1.fr q1).frozen (i * 5)
                        have z1 := (H3.out.1.fr q1).frozen (i * 5 + 1)
                        have z2 := (H3.out.1.fr q1).frozen (i * 5 + 2)
                        have z3 := (H3.out.1.fr q1).frozen (i * 5 + 3)
                        have z4 := (H3.out.1.fr q1).frozen (i * 5 + 4)
                        have hgs : g3 < w1.heap.size := (H3.out.1.fr q1).1.lt g3 rfl
                        have d1 := cell_fr0 q1 (H3.out.1.at_ H3.out.2.2.1 i _ HX.out).2.2.1
                        have d2 := cell_fr0 q1 (H3.out.1.at_ H3.out.2.2.1 i _ HX.out).2.2.2.1
                        have d3 := cell_fr0 q1 (H3.out.1.at_ H3.out.2.2.1 i _ HX.out).2.2.2.2.1
                        have d4 := cell_fr0 q1 (H3.out.1.at_ H3.out.2.2.1 i _ HX.out).2.2.2.2.2
                        clear q1
                        go_wp2
                        go_roundg (N - (i + 1))
                        case measure => omega
                        case rel => exact ⟨i + 1, l3.set i ⟨2, 0, 0, 0, 0⟩, by omega, rfl, by go_num, Lib.hid (HST.out w1 Q1.out)⟩
                      · go_wp2_with fail
                        refine HC.out.mono ?_
                        rintro r w1 ⟨rfl, q1⟩
                        have Q1 := Lib.hid q1
                        replace c0 := cell_fr0 q1 c0
                        have z0 := (H3.out.1.fr q1).frozen (i * 5)
                        have z1 := (H3.out.1.fr q1).frozen (i * 5 + 1)
                        have z2 := (H3.out.1.fr q1).frozen (i * 5 + 2)
                        have z3 := (H3.out.1.fr q1).frozen (i * 5 + 3)
                        have z4 := (H3.out.1.fr q1).frozen (i * 5 + 4)
                        have hgs : g3 < w1.heap.size := (H3.out.1.fr q1).1.lt g3 rfl
                        have d1 := cell_fr0 q1 (H3.out.1.at_ H3.out.2.2.1 i _ HX.out).2.2.1
                        have d2 := cell_fr0 q1 (H3.out.1.at_ H3.out.2.2.1 i _ HX.out).2.2.2.1
                        have d3 := cell_fr0 q1 (H3.out.1.at_ H3.out.2.2.1 i _ HX.out).2.2.2.2.1
                        have d4 := cell_fr0 q1 (H3.out.1.at_ H3.out.2.2.1 i _ HX.out).2.2.2.2.2
                        clear q1
                        go_wp2
                        go_roundg (N - (i + 1))
                        case measure => omega
                        case rel => exact ⟨i + 1, l3.set i ⟨2, 0, 0, 0, 0⟩, by omega, rfl, by go_num, Lib.hid (HST.out w1 Q1.out)⟩
                      · have HO := Lib.hid e9
                        have HO8 := Lib.hid e8
                        go_wp2_with fail
                        refine HC.out.mono ?_
                        rintro r w1 ⟨rfl, q1⟩
                        have Q1 := Lib.hid q1
                        replace c0 := cell_fr0 q1 c0
                        clear q1
                        go_wp2
                        go_roundg (N - (i + 1))
                        case measure => omega
                        case rel => exact ⟨i + 1, l3, by omega, rfl, by go_num, Lib.hid ⟨H3.out.1.fr Q1.out, H3.out.2.1, H3.out.2.2.1, by
                          rcases H3.out.2.2.2 with h | h
                          · exact .inl h
                          · refine .inr (fun j x hj hx => ?_)
                            by_cases hij : j < i
                            · exact h j x hij hx
                            · obtain rfl : j = i := by omega
                              have hx' := HX.out
                              rw [hx] at hx'
                              cases hx'
                              have a9 := HO.out
                              have a8 := HO8.out
                              simp at a9 a8
                              exact ⟨by show op ≠ 8; omega, by show op ≠ 9; omega⟩⟩⟩
                  · obtain rfl : i = N := by omega
                    have HE : Hid (checkE l3 = 0) := Lib.hid (by
                      rcases H3.out.2.2.2 with h | h
                      · exact h
                      · refine pre_check l3 (by have := H3.out.2.1; omega) H3.out.2.2.1 (fun x hx => ?_)
                        obtain ⟨j, hj, rfl⟩ := List.mem_iff_getElem.1 hx
                        exact h j _ (by have := H3.out.2.1; omega) (List.getElem?_eq_getElem hj))
                    go_wp2
                    go_ret
                    exact ⟨_, l3, rfl, H3.out.1, by have := H3.out.2.1; omega, by have := H3.out.2.1; omega, fun x hx => (H3.out.2.2.1 x hx).fits, HE.out⟩
              · obtain ⟨bd, rfl⟩ : ∃ q : Nat, bad = q := ⟨bad.toNat, by omega⟩
                rcases HS3.out with hz | ⟨g3, rfl, hcap3, hold⟩
                · omega
                have z0 := HJ.out.1.frozen (bd * 5)
                have z1 := HJ.out.1.frozen (bd * 5 + 1)
                have z2 := HJ.out.1.frozen (bd * 5 + 2)
                have z3 := HJ.out.1.frozen (bd * 5 + 3)
                have z4 := HJ.out.1.frozen (bd * 5 + 4)
                have hgs : g3 < wx.heap.size := HJ.out.1.1.lt g3 rfl
                obtain ⟨x, hx⟩ : ∃ x, l2[bd]? = some x := ⟨_, List.getElem?_eq_getElem (by have := HJ.out.2.1; omega)⟩
                obtain ⟨-, d0, d1, d2, d3, d4⟩ := HJ.out.1.at_ HJ.out.2.2 bd x hx
                clear hx
                go_wp2
                have hlt2 := HL.out
                go_roundg (40 - (j + 1))
                case measure => omega
                case rel => exact ⟨j + 1, l2.set bd ⟨2, 0, 0, 0, 0⟩, by omega, rfl, by go_num, Lib.hid ⟨HJ.out.1.set bd (by have := HJ.out.2.1; omega) ⟨2, 0, 0, 0, 0⟩, by rw [List.length_set]; exact HJ.out.2.1, pre_set HJ.out.2.2 bd⟩⟩
        · obtain rfl : j = 40 := by omega
          go_wp2
          go_loopg [11, 126] N (fun G u11 u126 wr => ∃ (i : Nat) (l3 : List Ins), i ≤ N ∧ G = N - i ∧ u126 = .int .i64 i ∧ Hid (PTold w wr (.slice a3 N c3) l3 ∧ l3.length = N ∧ (∀ x ∈ l3, Pre x) ∧ (checkE l3 = 0 ∨ ∀ j x, j < i → l3[j]? = some x → x.op ≠ 8 ∧ x.op ≠ 9)))
          case atStart => exact ⟨0, l2, Nat.zero_le _, rfl, rfl, Lib.hid ⟨H2.out.1, H2.out.2.1, H2.out.2.2, .inr (fun j x hj => by omega)⟩⟩
          case round =>
            obtain ⟨i, l3, hi, rfl, rfl, H3⟩ := hrel
            by_cases hlt3 : i < N
            · rcases HS3.out with hz | ⟨g3, rfl, hcap3, hold⟩
              · omega
              have HC := Lib.hid (check_any l3 _ wr (by have := H3.out.2.1; omega) (H3.out.1.sees H3.out.2.2.1))
              have hle := checkE_le l3
              obtain ⟨x, hx⟩ : ∃ x, l3[i]? = some x := ⟨_, List.getElem?_eq_getElem (by have := H3.out.2.1; omega)⟩
              have hat := H3.out.1.at_ H3.out.2.2.1
              obtain ⟨hf, c0, -, -, -, -⟩ := hat i x hx
              have hop := hf.op
              have HX := Lib.hid hx
              clear hat hf hx
              obtain ⟨op, xd, xa, xb, xn⟩ := x
              dsimp only at *
              by_cases hE : checkE l3 = 0
              · rw [hE] at HC
                have HE := Lib.hid hE
                clear hE hle
                go_wp2_with fail
                refine HC.out.mono ?_
                rintro r w1 ⟨rfl, q1⟩
                have Q1 := Lib.hid q1
                go_wp2
                go_roundg (N - (i + 1))
                case measure => omega
                case rel => exact ⟨i + 1, l3, by omega, rfl, by go_num, Lib.hid ⟨H3.out.1.fr Q1.out, H3.out.2.1, H3.out.2.2.1, .inl HE.out⟩⟩
              · have HN := Lib.hid hE
                obtain ⟨E, hEE⟩ : ∃ E, E = checkE l3 := ⟨_, rfl⟩
                rw [← hEE] at HC hE hle
                have e0 : ((E : Int) == 0) = false := by simp; omega
                have e1 : ((E : Int) != 0) = true := by simp; omega
                clear hE hEE
                have store : ∀ w1, Fr (fun _ => False) wr w1 → PTold w (setIns w1 g3 i ⟨2, 0, 0, 0, 0⟩) (.slice (some ⟨g3, 0, none⟩) N c3) (l3.set i ⟨2, 0, 0, 0, 0⟩) ∧ (l3.set i ⟨2, 0, 0, 0, 0⟩).length = N ∧ (∀ x ∈ l3.set i ⟨2, 0, 0, 0, 0⟩, Pre x) ∧
                    (checkE (l3.set i ⟨2, 0, 0, 0, 0⟩) = 0 ∨ ∀ j x, j < i + 1 → (l3.set i ⟨2, 0, 0, 0, 0⟩)[j]? = some x → x.op ≠ 8 ∧ x.op ≠ 9) := by
                  intro w1 f
                  refine ⟨(H3.out.1.fr f).set i (by have := H3.out.2.1; omega) _, by rw [List.length_set]; exact H3.out.2.1, pre_set H3.out.2.2.1 i, .inr (fun j x hj hx => ?_)⟩
                  rw [List.getElem?_set] at hx
                  by_cases hij : i = j
                  · subst hij
                    rw [if_pos rfl, if_pos (by have := H3.out.2.1; omega)] at hx
                    cases hx
                    exact ⟨by decide, by decide⟩
                  · rw [if_neg hij] at hx
                    rcases H3.out.2.2.2 with h | h
                    · exact absurd h HN.out
                    · exact h j x (by omega) hx
                have HST := Lib.hid store
                clear store
                rcases op_cases op with rfl | rfl | ⟨e9, e8⟩
                · go_wp2_with fail
                  refine HC.out.mono ?_
                  rintro r w1 ⟨rfl, q1⟩
                  have Q1 := Lib.hid q1
                  replace c0 := cell_fr0 q1 c0
                  have z0 := (H3.out.1.fr q1).frozen (i * 5)
                  have z1 := (H3.out.1.fr q1).frozen (i * 5 + 1)
                  have z2 := (H3.out.1.fr q1).frozen (i * 5 + 2)
                  have z3 := (H3.out.1.fr q1).frozen (i * 5 + 3)
                  have z4 := (H3.out.1.fr q1).frozen (i * 5 + 4)
                  have hgs : g3 < w1.heap.size := (H3.out.1.fr q1).1.lt g3 rfl
                  have d1 := cell_fr0 q1 (H3.out.1.at_ H3.out.2.2.1 i _ HX.out).2.2.1
                  have d2 := cell_fr0 q1 (H3.out.1.at_ H3.out.2.2.1 i _ HX.out).2.2.2.1
                  have d3 := cell_fr0 q1 (H3.out.1.at_ H3.out.2.2.1 i _ HX.out).2.2.2.2.1
                  have d4 := cell_fr0 q1 (H3.out.1.at_ H3.out.2.2.1 i _ HX.out).2.2.2.2.2
                  clear q1
                  go_wp2
                  go_roundg (N - (i + 1))
                  case measure => omega
                  case rel => exact ⟨i + 1, l3.set i ⟨2, 0, 0, 0, 0⟩, by omega, rfl, by go_num, Lib.hid (HST.out w1 Q1.out)⟩
                · go_wp2_with fail
                  refine HC.out.mono ?_
                  rintro r w1 ⟨rfl, q1⟩
                  have Q1 := Lib.hid q1
                  replace c0 := cell_fr0 q1 c0
                  have z0 := (H3.out.1.fr q1).frozen (i * 5)
                  have z1 := (H3.out.1.fr q1).frozen (i * 5 + 1)
                  have z2 := (H3.out.1.fr q1).frozen (i * 5 + 2)
                  have z3 := (H3.out.1.fr q1).frozen (i * 5 + 3)
                  have z4 := (H3.out.1.fr q1).frozen (i * 5 + 4)
                  have hgs : g3 < w1.heap.size := (H3.out.1.fr q1).1.lt g3 rfl
                  have d1 := cell_fr0 q1 (H3.out.1.at_ H3.out.2.2.1 i _ HX.out).2.2.1
                  have d2 := cell_fr0 q1 (H3.out.1.at_ H3.out.2.2.1 i _ HX.out).2.2.2.1
                  have d3 := cell_fr0 q1 (H3.out.1.at_ H3.out.2.2.1 i _ HX.out).2.2.2.2.1
                  have d4 := cell_fr0 q1 (H3.out.1.at_ H3.out.2.2.1 i _ HX.out).2.2.2.2.2
                  clear q1
                  go_wp2
                  go_roundg (N - (i + 1))
                  case measure => omega
                  case rel => exact ⟨i + 1, l3.set i ⟨2, 0, 0, 0, 0⟩, by omega, rfl, by go_num, Lib.hid (HST.out w1 Q1.out)⟩
                · have HO := Lib.hid e9
                  have HO8 := Lib.hid e8
                  go_wp2_with fail
                  refine HC.out.mono ?_
                  rintro r w1 ⟨rfl, q1⟩
                  have Q1 := Lib.hid q1
                  replace c0 := cell_fr0 q1 c0
                  clear q1
                  go_wp2
                  go_roundg (N - (i + 1))
                  case measure => omega
                  case rel => exact ⟨i + 1, l3, by omega, rfl, by go_num, Lib.hid ⟨H3.out.1.fr Q1.out, H3.out.2.1, H3.out.2.2.1, by
                    rcases H3.out.2.2.2 with h | h
                    · exact .inl h
                    · refine .inr (fun j x hj hx => ?_)
                      by_cases hij : j < i
                      · exact h j x hij hx
                      · obtain rfl : j = i := by omega
                        have hx' := HX.out
                        rw [hx] at hx'
                        cases hx'
                        have a9 := HO.out
                        have a8 := HO8.out
                        simp at a9 a8
                        exact ⟨by show op ≠ 8; omega, by show op ≠ 9; omega⟩⟩⟩
            · obtain rfl : i = N := by omega
              have HE : Hid (checkE l3 = 0) := Lib.hid (by
                rcases H3.out.2.2.2 with h | h
                · exact h
                · refine pre_check l3 (by have := H3.out.2.1; omega) H3.out.2.2.1 (fun x hx => ?_)
                  obtain ⟨j, hj, rfl⟩ := List.mem_iff_getElem.1 hx
                  exact h j _ (by have := H3.out.2.1; omega) (List.getElem?_eq_getElem hj))
              go_wp2
              go_ret
              exact ⟨_, l3, rfl, H3.out.1, by have := H3.out.2.1; omega, by have := H3.out.2.1; omega, fun x hx => (H3.out.2.2.1 x hx).fits, HE.out⟩


end Go.Proofs.Ytjifeopiaghmbaa
