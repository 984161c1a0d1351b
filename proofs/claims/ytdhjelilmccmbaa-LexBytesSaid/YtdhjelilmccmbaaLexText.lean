/-
  The laws' Text: some text, of at most seven bytes for each number.
-/
import Derived.Test.YtdhjelilmccmbaaLexAwake
import Derived.Test.YtdhjelilmccmbaaOpen
import Derived.RegionTactic
import Derived.BigRegion
namespace Go.Proofs.Ytdhjelilmccmbaa
open Go.RowKit

def TextPost (n : Nat) (w : World) (e : Ending) (w' : World) : Prop := ∃ s : ByteArray, e = .returned (.string s) ∧ s.size ≤ 7 * n ∧ Fr (fun _ => False) w w'

theorem text_empty (a : Option Addr) (c : Nat) (v2 : Value) (w : World) : Calls Try.prog 9 #[.slice a 0 c, v2] w (TextPost 0 w) := by
  go_enter Try.func9, Try.ntmps9
  go_wp2
  refine wp_loop_rounds 1 ?_
  rw [rounds_succ]
  go_wp2
  go_ret
  exact ⟨_, rfl, Nat.le_refl _, Fr.refl _ _⟩

/-- A byte of a text that is known. -/
theorem index_const (s : ByteArray) (i : Int) (h0 : 0 ≤ i) (h1 : i < s.size) : ∃ x : Int, 0 ≤ x ∧ x ≤ 255 ∧ ∀ w, (Instr.index 9 (.string s) (.int .u8 i)).run Try.prog w = .ok (.int .u8 x) w := by
  have hi : i.toNat < s.size := by omega
  refine ⟨((s[i.toNat]'hi).toNat : Int), by omega, by have := (s[i.toNat]'hi).toNat_lt; omega, fun w => ?_⟩
  rw [run_index_string w 9 s .u8 i Try.underlying9]
  simp [h0, h1]

/-- 'string(b)' of two bytes that were just made. -/
theorem conv_two (x y : Int) (hx0 : 0 ≤ x) (hx1 : x ≤ 255) (hy0 : 0 ≤ y) (hy1 : y ≤ 255) : ∃ X : ByteArray, X.size = 2 ∧ ∀ w : World, (convert 22 9 (.slice (some ⟨w.heap.size, 0, none⟩) 2 2)).run Try.prog (w.alloc (.cells #[.int .u8 x, .int .u8 y] 5)).drew = .ok (.string X) (w.alloc (.cells #[.int .u8 x, .int .u8 y] 5)).drew := by
  refine ⟨⟨#[UInt8.ofNat x.toNat, UInt8.ofNat y.toNat]⟩, rfl, fun w => ?_⟩
  have hs : Sees (w.alloc (.cells #[.int .u8 x, .int .u8 y] 5)) (.slice (some ⟨w.heap.size, 0, none⟩) 2 2) [UInt8.ofNat x.toNat, UInt8.ofNat y.toNat] := by
    refine sees_new (l := [UInt8.ofNat x.toNat, UInt8.ofNat y.toNat]) w.heap.size (heap_alloc_new w _) ?_ (by simp)
    intro j hj
    simp at hj
    match j, hj with
    | 0, _ => simp [bv_of x hx0 hx1]
    | 1, _ => simp [bv_of y hy0 hy1]
  exact hs.drew.string 22 5 9 Try.underlying22 Try.underlying5 Try.underlying9

/-- 'string(b)' of one byte. -/
theorem conv_one (w : World) (g o c : Nat) (d : UInt8) (hc : w.cell? ⟨g, o, none⟩ = some (bv d)) (h1 : 1 ≤ c) : ∃ X : ByteArray, X.size = 1 ∧ (convert 22 9 (.slice (some ⟨g, o, none⟩) 1 c)).run Try.prog w = .ok (.string X) w := by
  refine ⟨⟨#[d]⟩, rfl, ?_⟩
  have hs : Sees w (.slice (some ⟨g, o, none⟩) 1 c) [d] := by
    refine .inr ⟨g, o, c, rfl, h1, fun j hj => ?_⟩
    simp at hj
    subst hj
    simpa using hc
  exact hs.string 22 5 9 Try.underlying22 Try.underlying5 Try.underlying9

set_option maxRecDepth 100000 in
set_option maxHeartbeats 4000000 in
theorem text_some (g off c : Nat) (l : List UInt8) (hl : l.length ≤ 100) (w : World) (hcell : ∀ j, j < l.length → w.cell? ⟨g, off + j, none⟩ = some (bv (l.getD j 0)))
    (a2 : Option Addr) (n2 c2 : Nat) (m : List UInt8) (h2 : Sees w (.slice a2 n2 c2) m) :
    Calls Try.prog 9 #[.slice (some ⟨g, off, none⟩) l.length c, .slice a2 n2 c2] w (TextPost l.length w) := by
  have HC := Lib.hid hcell
  have H2 := Lib.hid h2
  clear hcell h2
  go_enter Try.func9, Try.ntmps9
  go_wp2
  go_loopg [5, 11] l.length (fun gh v5 v11 wr => ∃ (k : Nat) (t : ByteArray), k ≤ l.length ∧ gh = l.length - k ∧ v11 = .int .i64 k ∧ v5 = .string t ∧ t.size ≤ 7 * k ∧ Hid (Fr (fun _ => False) w wr))
  case atStart => exact ⟨0, ⟨#[]⟩, Nat.zero_le _, rfl, rfl, rfl, Nat.le_refl _, Lib.hid (Fr.refl _ _)⟩
  case round =>
    obtain ⟨k, t, hk, rfl, rfl, rfl, ht, HF⟩ := hrel
    by_cases hlt : k < l.length
    · have hc := HC.out k hlt
      have hc' : wr.cell? ⟨g, off + k, none⟩ = some (bv (l.getD k 0)) := by rw [← hc]; exact HF.out.cell (World.block_lt_of_cell? w _ hc) (fun h => h)
      clear hc
      unfold bv at hc'
      have hb1 : ((l.getD k 0).toNat : Int) ≤ 255 := by have := (l.getD k 0).toNat_lt; omega
      have hb0 : 0 ≤ ((l.getD k 0).toNat : Int) := by omega
      generalize ((l.getD k 0).toNat : Int) = n at *
      by_cases n60 : n < 60
      · obtain ⟨x, hx0, hx1, kx⟩ := index_const ⟨#[97, 98, 99, 88, 89, 90]⟩ (n % 6) (by omega) (by show n % 6 < 6; omega)
        obtain ⟨y, hy0, hy1, ky⟩ := index_const ⟨#[97, 98, 48, 49]⟩ (n / 6 % 4) (by omega) (by show n / 6 % 4 < 4; omega)
        obtain ⟨X, hX, kX⟩ := conv_two x y hx0 hx1 hy0 hy1
        have HX := Lib.hid hX
        have hX2 : X.size ≤ 2 := by omega
        have ht7 : t.size ≤ 700 := by omega
        have hadd : ∀ w, (Op.stringOp .add t X).run Try.prog w = .ok (.string (t ++ X)) w := fun w => run_string_add_sum w t X (by omega)
        clear hX
        go_wp2
        have kX' := kX wr
        clear kX
        go_region
        all_goals
          go_wp2
          go_roundg (l.length - (k + 1))
          case measure => omega
          case rel => exact ⟨k + 1, _, hlt, rfl, by go_num, rfl, by rw [ByteArray.size_append, HX.out]; omega, Lib.hid ((HF.out.alloc _).drew)⟩
      · by_cases n100 : n < 100
        · go_wp2
          go_roundg (l.length - (k + 1))
          case measure => omega
          case rel => exact ⟨k + 1, _, hlt, rfl, by go_num, rfl, by rw [ByteArray.size_append, ByteArray.size_extract]; omega, HF⟩
        · by_cases n240 : n < 240
          · go_wp2
            go_roundg (l.length - (k + 1))
            case measure => omega
            case rel => exact ⟨k + 1, _, hlt, rfl, by go_num, rfl, by rw [ByteArray.size_append, ByteArray.size_extract]; omega, HF⟩
          · by_cases hk2 : k < n2
            · have hR := H2.out.fr HF.out (fun _ _ h => h)
              rcases hR with ⟨_, a', c', e⟩ | ⟨g2, off2, cap2, e, hle2, hc2⟩
              · simp only [Value.slice.injEq] at e; omega
              · simp only [Value.slice.injEq] at e
                obtain ⟨rfl, rfl, rfl⟩ := e
                have hc3 := hc2 k hk2
                have hnc : ¬ (c2 = k) := by omega
                have hkc : (k : Int) + 1 ≤ (c2 : Int) := by omega
                obtain ⟨X, hX, kX⟩ := conv_one wr g2 (off2 + k) (c2 - k) _ hc3 (by omega)
                have HX := Lib.hid hX
                have hX2 : X.size ≤ 2 := by omega
                clear hc2 hX
                go_wp2
                go_roundg (l.length - (k + 1))
                case measure => omega
                case rel => exact ⟨k + 1, _, hlt, rfl, by go_num, rfl, by rw [ByteArray.size_append, HX.out]; omega, HF⟩
            · go_wp2
              go_roundg (l.length - (k + 1))
              case measure => omega
              case rel => exact ⟨k + 1, _, hlt, rfl, by go_num, rfl, by omega, HF⟩
    · obtain rfl : k = l.length := by omega
      go_wp2
      go_ret
      exact ⟨_, rfl, ht, HF.out⟩

theorem text_any (v v2 : Value) (l m : List UInt8) (hl : l.length ≤ 100) (w : World) (h : Sees w v l) (h2 : Sees w v2 m) : Calls Try.prog 9 #[v, v2] w (TextPost l.length w) := by
  obtain ⟨a2, c2, rfl, _⟩ := h2.shape
  rcases h with ⟨rfl, a, c, rfl⟩ | ⟨g, off, cap, rfl, hle, hc⟩
  · exact text_empty a c _ w
  · exact text_some g off cap l hl w hc a2 m.length c2 m h2

theorem sees_none (w : World) : Sees w (.slice none 0 0) [] := .inl ⟨rfl, _, _, rfl⟩

end Go.Proofs.Ytdhjelilmccmbaa
