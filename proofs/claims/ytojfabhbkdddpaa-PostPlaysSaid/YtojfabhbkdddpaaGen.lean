/-
  General lemmas on memory: slices that show bytes, slices that own bytes alone, and what reads them. They speak of no program.
-/
import Derived.Test.YtojfabhbkdddpaaApp
namespace Go.Proofs.Ytojfabhbkdddpaa
open Go.RowKit

/-- A byte as a value. -/
def bv (c : UInt8) : Value := .int .u8 c.toNat

theorem bv_one (l : List UInt8) : ∀ u ∈ l.map bv, u.oneCell' = true := by
  intro u hu
  obtain ⟨c, _, rfl⟩ := List.mem_map.1 hu
  rfl

/-- The slice value v shows the bytes l (which others may show, too). -/
def Sees (w : World) (v : Value) (l : List UInt8) : Prop :=
  (l = [] ∧ ∃ a c, v = .slice a 0 c) ∨
  ∃ g off cap, v = .slice (some ⟨g, off, none⟩) l.length cap ∧ l.length ≤ cap ∧ ∀ j, j < l.length → w.cell? ⟨g, off + j, none⟩ = some (bv (l.getD j 0))

/-- The slice value v owns the row of bytes l alone. -/
def Own (w : World) (v : Value) (l : List UInt8) : Prop := w.ownsRow 0 5 1 v l.length (l.map bv)

theorem lenOf_slice {P : Program} (a : Option Addr) (n c : Nat) (w : World) : (Builtin.lenOf (.slice a n c)).run P w = .ok n w := by simp [Builtin.lenOf]
theorem lenOf_string {P : Program} (s : ByteArray) (w : World) : (Builtin.lenOf (.string s)).run P w = .ok s.size w := by simp [Builtin.lenOf]

theorem Sees.lenOf {P : Program} {w : World} {v : Value} {l : List UInt8} (h : Sees w v l) (w' : World) : (Builtin.lenOf v).run P w' = .ok l.length w' := by
  rcases h with ⟨rfl, a, c, rfl⟩ | ⟨g, off, cap, rfl, _, _⟩
  · exact lenOf_slice _ _ _ _
  · exact lenOf_slice _ _ _ _

theorem Sees.first {P : Program} {w : World} {v : Value} {l : List UInt8} (h : Sees w v l) : (Builtin.firstCells 1 l.length v).run P w = .ok (l.map bv).toArray w := by
  rcases h with ⟨rfl, a, c, rfl⟩ | ⟨g, off, cap, rfl, _, hc⟩
  · cases a with
    | none => simp [Builtin.firstCells]
    | some a => exact run_firstCells_some (P := P) w 1 0 a 0 c [] rfl (by simp)
  · refine run_firstCells_some (P := P) w 1 l.length ⟨g, off, none⟩ l.length cap (l.map bv) (by simp) ?_
    intro j v hj
    have hjl : j < l.length := by
      have := (List.getElem?_eq_some_iff.1 hj).1
      simpa using this
    have hplain : (⟨g, off, none⟩ : Addr).add j = ⟨g, off + j, none⟩ := by unfold Addr.add; split <;> simp_all
    rw [hplain, hc j hjl, ← hj]
    simp [List.getD, hjl]

theorem Sees.drew {w : World} {v : Value} {l : List UInt8} (h : Sees w v l) : Sees w.drew v l := h

theorem Sees.fr {S : Nat → Prop} {w w' : World} {v : Value} {l : List UInt8} (h : Sees w v l) (hf : Fr S w w') (hS : ∀ k, v.ownBlock = some k → ¬ S k) : Sees w' v l := by
  rcases h with h | ⟨g, off, cap, rfl, hle, hc⟩
  · exact .inl h
  · refine .inr ⟨g, off, cap, rfl, hle, fun j hj => ?_⟩
    have h1 := hc j hj
    rw [← h1]
    exact hf.cell (World.block_lt_of_cell? w _ h1) (hS g rfl)

theorem string_first {P : Program} (s : ByteArray) (w : World) : (Builtin.firstCells 1 s.size (.string s)).run P w = .ok (s.data.toList.map bv).toArray w := by
  have hx : s.extract 0 s.size = s := by
    apply ByteArray.ext
    rw [ByteArray.data_extract]
    show s.data.extract 0 s.data.size = s.data
    exact Array.extract_size
  have hy : s.data.map (fun b => Value.int IntKind.u8 b.toNat) = (s.data.toList.map bv).toArray := by
    apply Array.ext'
    simp only [Array.toList_map]
    rfl
  simp [Builtin.firstCells, hx, hy]

theorem Own.sees {w : World} {v : Value} {l : List UInt8} (h : Own w v l) : Sees w v l := by
  obtain ⟨_, h2⟩ := h
  rcases h2 with ⟨rfl, h0⟩ | ⟨g, cap, cur, rfl, _, hg, hn, _, hs, ht⟩
  · exact .inl ⟨List.eq_nil_of_length_eq_zero h0, none, 0, rfl⟩
  · refine .inr ⟨g, 0, cap, rfl, hn, fun j hj => ?_⟩
    rw [cell_of_row w g (0 + j) cur _ (0, 0) hg, Nat.zero_add]
    have e : (cur.toList.take (l.length * 1))[j]? = (l.map bv)[j]? := by rw [ht]
    rw [List.getElem?_take, if_pos (by omega)] at e
    rw [← Array.getElem?_toList, e]
    simp [List.getD, hj]

theorem Own.fr {S : Nat → Prop} {w w' : World} {v : Value} {l : List UInt8} (h : Own w v l) (hf : Fr S w w') (hS : ∀ k, v.ownBlock = some k → ¬ S k) : Own w' v l := by
  refine ⟨h.1, ?_⟩
  rcases h.2 with hn | ⟨g, cap, cur, rfl, hb, hgg, rest⟩
  · exact .inl hn
  · refine .inr ⟨g, cap, cur, rfl, hb, ?_, rest⟩
    rw [hf.block g (Array.getElem?_eq_some_iff.1 hgg).1 (hS g rfl)]
    exact hgg

theorem Own.lt {w : World} {v : Value} {l : List UInt8} (h : Own w v l) : ∀ k, v.ownBlock = some k → k < w.heap.size := fun k hk => (World.ownsRow.lt h k hk).2

theorem first_row {P : Program} {w : World} {g : Nat} {cs : Array Value} {t : TypeId} {fr : Nat × Nat} (h : w.heap[g]? = some (.cells cs t fr)) (n c : Nat) (hn : cs.size = n) :
    (Builtin.firstCells 1 n (.slice (some ⟨g, 0, none⟩) n c)).run P w = .ok cs w := by
  have := run_firstCells_some (P := P) w 1 n ⟨g, 0, none⟩ n c cs.toList (by simp [hn]) (by
    intro j v hj
    have hplain : (⟨g, 0, none⟩ : Addr).add j = ⟨g, j, none⟩ := by unfold Addr.add; split <;> simp_all
    rw [hplain, cell_of_row w g j cs t fr h]
    simpa using hj)
  simpa using this

theorem bv_of (n : Int) (h0 : 0 ≤ n) (h1 : n ≤ 255) : bv (UInt8.ofNat n.toNat) = .int .u8 n := by
  unfold bv
  congr 1
  have : (UInt8.ofNat n.toNat).toNat = n.toNat := by simp; omega
  rw [this]; omega

theorem slice_of_own {w : World} {base : Nat} {e : TypeId} {size : Nat} {v : Value} {n : Nat} {xs : List Value} (h : w.ownsRow base e size v n xs) : ∃ a c, v = .slice a n c := by
  rcases h.2 with ⟨rfl, rfl⟩ | ⟨g, cap, cur, rfl, _⟩
  · exact ⟨_, _, rfl⟩
  · exact ⟨_, _, rfl⟩

theorem push_bytes : ∀ (l : List UInt8) (s : ByteArray), (l.map fun c => (c.toNat : Int)).foldl (fun r n => r.push (UInt8.ofNat n.toNat)) s = ⟨s.data ++ l.toArray⟩
  | [], s => by simp
  | c :: l, s => by
    rw [List.map_cons, List.foldl_cons, push_bytes l]
    simp [ByteArray.push]

theorem Sees.shape {w : World} {v : Value} {l : List UInt8} (h : Sees w v l) : ∃ a c, v = .slice a l.length c ∧ (a = none → l = []) := by
  rcases h with ⟨rfl, a, c, rfl⟩ | ⟨g, off, cap, rfl, hle, _⟩
  · exact ⟨a, c, rfl, fun _ => rfl⟩
  · exact ⟨_, cap, rfl, fun h => by cases h⟩

theorem Sees.cap {w : World} {a : Option Addr} {n c : Nat} {l : List UInt8} (h : Sees w (.slice a n c) l) : n = l.length ∧ (n = 0 ∨ n ≤ c) := by
  rcases h with ⟨rfl, _, _, e⟩ | ⟨g, off, cap, e, hle, _⟩
  · simp at e; simp [e]
  · simp at e; omega

/-- string(v) -/
theorem Sees.string {P : Program} {w : World} {v : Value} {l : List UInt8} (h : Sees w v l) (src e dst : TypeId) (hs : P.underlying src = some (.slice e)) (he : P.underlying e = some (.int .u8)) (hd : P.underlying dst = some .string) :
    (convert src dst v).run P w = .ok (.string ⟨l.toArray⟩) w := by
  have main : ∀ a n c, v = .slice (some a) n c → (loadCells a n).run P w = .ok ((l.map fun c => (c.toNat : Int)).map (Value.int .u8)).toArray w → (convert src dst v).run P w = .ok (.string ⟨l.toArray⟩) w := by
    rintro a n c rfl hl
    rw [run_convert_bytes_string w src dst e _ n c hs he hd, run_bytesToString w _ n c _ hl, push_bytes]
    simp [ByteArray.empty, ByteArray.emptyWithCapacity]
    rfl
  have hf := h.first (P := P)
  rcases h with ⟨rfl, a, c, rfl⟩ | ⟨g, off, cap, rfl, _, _⟩
  · cases a with
    | none => rw [run_convert_bytes_nil w src e hs he 0 c dst hd]; rfl
    | some a => exact main a 0 c rfl (by simpa [Builtin.firstCells] using hf)
  · refine main _ _ cap rfl ?_
    simp only [Builtin.firstCells, Nat.mul_one] at hf
    rw [hf, List.map_map]
    rfl

/-- A new row whose first cells are bytes: the slice over it shows them. -/
theorem sees_new {w : World} {cs : Array Value} {t : TypeId} {fr : Nat × Nat} {l : List UInt8} {c : Nat} (g : Nat) (hg : w.heap[g]? = some (.cells cs t fr)) (hc : ∀ j, j < l.length → cs[j]? = some (bv (l.getD j 0))) (hle : l.length ≤ c) :
    Sees w (.slice (some ⟨g, 0, none⟩) l.length c) l := by
  refine .inr ⟨g, 0, c, rfl, hle, fun j hj => ?_⟩
  rw [Nat.zero_add, cell_of_row w g j cs t fr hg, hc j hj]

/-- The bytes of a text, behind '[]byte(s)'. -/
theorem sees_bytes (w : World) (s : ByteArray) (e : TypeId) :
    Sees (w.drew.alloc (.cells (bytesRow s (grownCap w s.size 0 e)) e ((bytesRow s (grownCap w s.size 0 e)).size, (bytesRow s (grownCap w s.size 0 e)).size + 1))) (.slice (some ⟨w.heap.size, 0, none⟩) s.size (grownCap w s.size 0 e)) s.data.toList := by
  have hl : s.data.toList.length = s.size := rfl
  have := sees_new (w := w.drew.alloc (.cells (bytesRow s (grownCap w s.size 0 e)) e ((bytesRow s (grownCap w s.size 0 e)).size, (bytesRow s (grownCap w s.size 0 e)).size + 1))) (l := s.data.toList) (c := grownCap w s.size 0 e) w.heap.size (heap_alloc_new w.drew _) ?_ (by rw [hl]; exact grownCap_ge w _ _ _)
  · rw [hl] at this; exact this
  · intro j hj
    have hj' : j < s.data.size := by simpa using hj
    unfold bytesRow
    rw [Array.getElem?_append_left (by simpa using hj'), Array.getElem?_map, Array.getElem?_eq_getElem hj']
    simp only [bv, List.getD, Option.map_some, Array.getElem?_toList, Array.getElem?_eq_getElem hj', Option.getD_some]

end Go.Proofs.Ytojfabhbkdddpaa
