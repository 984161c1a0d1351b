/-
  CouAny, part 1 of what it rests on: App, KindSmall, Gen, Open, KindNaming, KindType, KindCopy, Bytes, PMade, PWriter, KindWholeDef, KindTab, KindRight, KindStands.
-/
import Derived.Test.YtplipjijaaejlaaProg
import Derived.KernelRfl
import Derived.WalkKit
import Derived.WalkSpells
import Derived.WalkLawsBesides
import Derived.OneCell
import Derived.Lib.Hide
import Derived.Handy
import Derived.Deep.LoopGhost
import Derived.Lib.Strings
import Derived.ProofKit
import Derived.OpenShut
import Derived.SliceStrings
import Derived.Lib.Bytealg
import Derived.Lib.BufferWrite
import Derived.Lib.UnsafeStr
import Derived.Laws.MakeOwn
import Derived.Lib.SliceRun
import Derived.Deep.OwnRows
import Derived.Deep.QuietTactic
import Derived.BigQuiet
set_option linter.unusedVariables false
set_option linter.unusedSimpArgs false
set_option maxHeartbeats 32000000
namespace Go.Proofs.Ytplipjijaaejlaa
open Go.RowKit
open Go.Lib (hid)
section
/-- Between w and w' only the blocks in S (and new ones) may have changed. -/
structure Fr (S : Nat → Prop) (w w' : World) : Prop where
  os : w'.os = w.os
  tape : w'.tape = w.tape
  output : w'.output = w.output
  size : w.heap.size ≤ w'.heap.size
  block : ∀ k, k < w.heap.size → ¬ S k → w'.heap[k]? = w.heap[k]?

theorem Fr.refl (S : Nat → Prop) (w : World) : Fr S w w := ⟨rfl, rfl, rfl, Nat.le_refl _, fun _ _ _ => rfl⟩

theorem Fr.trans {S T : Nat → Prop} {a b c : World} (h : Fr S a b) (k : Fr T b c) (hT : ∀ i, i < a.heap.size → T i → S i) : Fr S a c :=
  ⟨k.os.trans h.os, k.tape.trans h.tape, k.output.trans h.output, Nat.le_trans h.size k.size,
   fun i hi hs => (k.block i (Nat.lt_of_lt_of_le hi h.size) (fun ht => hs (hT i hi ht))).trans (h.block i hi hs)⟩

theorem Fr.mono {S T : Nat → Prop} {a b : World} (h : Fr S a b) (hT : ∀ i, i < a.heap.size → S i → T i) : Fr T a b :=
  ⟨h.os, h.tape, h.output, h.size, fun i hi hs => h.block i hi (fun x => hs (hT i hi x))⟩

theorem Fr.drew {S : Nat → Prop} {a b : World} (h : Fr S a b) : Fr S a b.drew := ⟨h.os, h.tape, h.output, h.size, h.block⟩

theorem Fr.alloc {S : Nat → Prop} {a b : World} (h : Fr S a b) (o : Obj) : Fr S a (b.alloc o) :=
  ⟨h.os, h.tape, h.output, by have := h.size; show _ ≤ (b.heap.push o).size; rw [Array.size_push]; omega, fun i hi hs => by
    rw [Below.heap_alloc _ _ _ (Nat.lt_of_lt_of_le hi h.size)]; exact h.block i hi hs⟩

theorem Fr.setCell {S : Nat → Prop} {a b : World} (h : Fr S a b) {p : Addr} (hp : p.block < a.heap.size → S p.block) (u : Value) : Fr S a (b.setCell p u) :=
  ⟨h.os, h.tape, h.output, by have := h.size; simp [World.setCell]; omega, fun i hi hs => by
    rw [Below.heap_setCell _ _ _ _ (fun e => hs (by rw [e]; exact hp (by omega)))]; exact h.block i hi hs⟩

theorem Fr.set1 {b : Nat} {a c : World} (h : Fr (fun k => k = b) a c) (i : Nat) (u : Value) : Fr (fun k => k = b) a (c.setCell ⟨b, i, none⟩ u) :=
  h.setCell (p := ⟨b, i, none⟩) (fun _ => rfl) u

theorem Fr.of_grown {a b : World} {row : Option Nat} (h : a.grownBy b row) : Fr (fun k => some k = row) a b :=
  ⟨h.os, h.tape, h.output, h.size, fun i hi hs => h.block i hi hs⟩

theorem Fr.below {S : Nat → Prop} {B : Nat} {a b : World} (h : Fr S a b) (hB : B ≤ a.heap.size) (hS : ∀ i, i < B → ¬ S i) : Below B a b :=
  ⟨h.os, h.tape, h.output, h.size, fun i hi => h.block i (Nat.lt_of_lt_of_le hi hB) (hS i hi)⟩

theorem Fr.cell {S : Nat → Prop} {w w' : World} (h : Fr S w w') {p : Addr} (hp : p.block < w.heap.size) (hs : ¬ S p.block) : w'.cell? p = w.cell? p :=
  World.cell?_of_block (w := w) (h.block p.block hp hs)

/-- Append onto a slice that is owned alone: from whatever source whose first cells are known. -/
theorem run_append_sep {P : Program} (w : World) (base : Nat) (t u ty e : TypeId) (i : TypeInfo) (z : Value) (size bytes : Nat) (ht : P.underlying t = some (.slice e)) (du : TypeDesc) (hu : P.underlying u = some du) (hud : du = .string ∨ ∃ e', du = .slice e')
    (hi : P.info? e = some i) (hz : i.zero = some z)
    (hsize : i.size = size) (hby : i.bytes = bytes) (hzs : z.cells.size = size) (hsz : 0 < size)
    (v : Value) (n : Nat) (xs : List Value) (hown : w.ownsRow base e size v n xs)
    (x : Value) (m : Nat) (news : List Value) (hlen : ∀ w, (Builtin.lenOf x).run P w = .ok m w) (hl : news.length = m * size)
    (hc : (Builtin.firstCells size m x).run P w = .ok news.toArray w) (hc' : (Builtin.firstCells size m x).run P w.drew = .ok news.toArray w.drew) (h1 : ∀ u ∈ news, u.oneCell' = true)
    (h63 : n + m ≤ maxLen) (hbytes : (n + m) * bytes ≤ 140737488355328) (hbase : base ≤ w.heap.size) :
    ∃ v' w', (Builtin.append_ #[t, u] ty #[v, x]).run P w = .ok v' w' ∧ w'.ownsRow base e size v' (n + m) (xs ++ news) ∧ w.grownBy w' v.ownBlock ∧
      (v'.ownBlock = v.ownBlock ∨ v'.ownBlock = some w.heap.size) := by
  subst hsize
  subst hby
  have hsmall : n + m ≤ 9223372036854775807 := by simp only [maxLen] at h63; omega
  have hlen2 : (xs ++ news).length = (n + m) * i.size := by rw [List.length_append, hown.1, hl, Nat.add_mul]
  have grown : ∀ (old : Nat), old < n + m → ∀ (row : Option Nat),
      (w.drew.alloc (.cells (xs.toArray ++ news.toArray ++ Builtin.zeroCells z.cells (grownCap w (n + m) old e - (n + m))) e)).ownsRow base e i.size
        (.slice (some ⟨w.heap.size, 0, none⟩) (n + m) (grownCap w (n + m) old e)) (n + m) (xs ++ news) ∧
      w.grownBy (w.drew.alloc (.cells (xs.toArray ++ news.toArray ++ Builtin.zeroCells z.cells (grownCap w (n + m) old e - (n + m))) e)) row := by
    intro old ho row
    have hge := grownCap_ge w (n + m) old e
    have hcm : grownCap w (n + m) old e ≤ maxLen := grownCap_le_maxLen w (n + m) old e h63
    refine ⟨⟨hlen2, .inr ⟨w.heap.size, _, _, rfl, hbase, heap_alloc_new w.drew _, hge, hcm, ?_, ?_⟩⟩, ⟨rfl, rfl, rfl, by simp, fun k hk _ => Below.heap_alloc w.drew _ k hk⟩⟩
    · simp only [Array.size_append, List.size_toArray, size_zeroCells, hzs, hown.1, hl, ← Nat.add_mul]
      congr 1
      omega
    · simp only [Array.toList_append, List.append_assoc]
      rw [← List.append_assoc, ← hlen2]
      exact List.take_left
  have hl1 := hlen w
  rcases hown.2 with ⟨rfl, rfl⟩ | ⟨g, cap, cur, rfl, hbg, hg, hnc, hcm, hcs, htake⟩
  · have hx : xs = [] := List.eq_nil_of_length_eq_zero (by simpa using hown.1)
    subst hx
    by_cases hm : m = 0
    · subst hm
      have hn : news = [] := List.eq_nil_of_length_eq_zero (by simpa using hl)
      subst hn
      refine ⟨.slice none 0 0, w, ?_, World.ownsRow_nil w base e i.size, ⟨rfl, rfl, rfl, Nat.le_refl _, fun _ _ _ => rfl⟩, .inl rfl⟩
      rcases hud with rfl | ⟨e', rfl⟩ <;> simp [Builtin.append_, run_underlying ht, run_underlying hu, sizeOf, typeInfo, hi, hl1, hc]
    · have hm63 : ¬ (9223372036854775807 < (m : Int)) := by omega
      have hm48 : ¬ (281474976710656 < Builtin.nextslicecap m 0 * i.bytes) := by rw [nextslicecap_zero (by omega)]; have hb := hbytes; simp only [Nat.zero_add] at hb; omega
      have hgr := grown 0 (by omega) (Value.ownBlock (.slice none 0 0))
      simp only [Nat.zero_add, List.nil_append, Array.empty_append] at hgr ⊢
      refine ⟨_, _, ?_, hgr.1, hgr.2, .inr rfl⟩
      rcases hud with rfl | ⟨e', rfl⟩ <;> simp [Builtin.append_, run_underlying ht, run_underlying hu, sizeOf, typeInfo, zeroValue, hi, hz, hl1, hm, hm63, hm48, Question.forced, run_firstCells_none, hc', newRow, grownCap]
  · by_cases hroom : n + m ≤ cap
    · have hfit : n * i.size + news.length ≤ cur.size := by rw [hl, hcs, ← Nat.add_mul]; exact Nat.mul_le_mul_right _ hroom
      have hst := run_storeCells_at P g (n * i.size) e news 0 cur w hg (by simpa using hfit) h1
      simp only [Nat.add_zero] at hst
      refine ⟨.slice (some ⟨g, 0, none⟩) (n + m) cap, w.setRow g (cur.toList.take (n * i.size) ++ news ++ cur.toList.drop (n * i.size + news.length)).toArray, ?_, ⟨hlen2, .inr ⟨g, cap, _, rfl, hbg, setRow_heap w g cur _ e _ hg, hroom, hcm, ?_, ?_⟩⟩, ⟨rfl, rfl, rfl, by simp, fun k _ hk => setRow_other w g k _ (fun e => hk (by simp [Value.ownBlock, e]))⟩, .inl rfl⟩
      · rcases hud with rfl | ⟨e', rfl⟩ <;> simp [Builtin.append_, run_underlying ht, run_underlying hu, sizeOf, typeInfo, hi, hl1, hroom, hc, Addr.add_lit, hst]
      · simp only [List.size_toArray, List.length_append, List.length_take, List.length_drop, Array.length_toList]
        omega
      · rw [htake, ← hlen2]
        exact List.take_left
    · have holds : ∀ j u, xs[j]? = some u → w.cell? ((⟨g, 0, none⟩ : Addr).add j) = some u := hown.cells (g := g) rfl
      have hn63 : ¬ (9223372036854775807 < ((n : Int) + (m : Int))) := by omega
      have hn48 : ¬ (281474976710656 < Builtin.nextslicecap (n + m) cap * i.bytes) := by have := growslice_fits (need := n + m) (old := cap) (bytes := i.bytes) (by omega) hbytes; omega
      have hfo := run_firstCells_some (P := P) w.drew i.size n ⟨g, 0, none⟩ n cap xs hown.1 (by simpa using holds)
      have hgr := grown cap (by omega) (Value.ownBlock (.slice (some ⟨g, 0, none⟩) n cap))
      refine ⟨_, _, ?_, hgr.1, hgr.2, .inr rfl⟩
      rcases hud with rfl | ⟨e', rfl⟩ <;> (simp [Builtin.append_, run_underlying ht, run_underlying hu, sizeOf, typeInfo, zeroValue, hi, hz, hl1, hroom, hn63, hn48, Question.forced, hc', hfo, newRow, grownCap]; congr 2; apply Array.ext'; simp [List.append_assoc])

theorem wpList_append_sep {P : Program} {w : World} {ops : Array Oper} {rest : List Oper} {o : Oper} {a : Act} {Q : Exit → Act → World → Prop} (hgd : o.guard = none) (s x : Operand) (t u : TypeId)
    (ho : o.op = .call { callee := .builtin .append, args := #[s, x], argTypes := #[t, u] })
    (base : Nat) (e : TypeId) (i : TypeInfo) (z : Value) (size bytes : Nat) (ht : P.underlying t = some (.slice e)) (du : TypeDesc) (hu : P.underlying u = some du) (hud : du = .string ∨ ∃ e', du = .slice e')
    (hi : P.info? e = some i) (hz : i.zero = some z)
    (hsize : i.size = size) (hby : i.bytes = bytes) (hzs : z.cells.size = size) (hsz : 0 < size)
    (v : Value) (n : Nat) (xs : List Value) (hs : a.eval s = v) (hown : w.ownsRow base e size v n xs)
    (xv : Value) (m : Nat) (news : List Value) (hx : a.eval x = xv) (hlen : ∀ w, (Builtin.lenOf xv).run P w = .ok m w) (hl : news.length = m * size)
    (hc : (Builtin.firstCells size m xv).run P w = .ok news.toArray w) (hc' : (Builtin.firstCells size m xv).run P w.drew = .ok news.toArray w.drew) (h1 : ∀ u ∈ news, u.oneCell' = true)
    (h63 : n + m ≤ maxLen) (hbytes : (n + m) * bytes ≤ 140737488355328) (hbase : base ≤ w.heap.size)
    (h : ∀ v' w', w'.ownsRow base e size v' (n + m) (xs ++ news) → w.grownBy w' v.ownBlock → (v'.ownBlock = v.ownBlock ∨ v'.ownBlock = some w.heap.size) → wpList P ops Q rest (a.put o.dst v') w') : wpList P ops Q (o :: rest) a w := by
  obtain ⟨v', w', hr, h2, h3, h4⟩ := run_append_sep (P := P) w base t u o.type e i z size bytes ht du hu hud hi hz hsize hby hzs hsz v n xs hown xv m news hlen hl hc hc' h1 h63 hbytes hbase
  refine wpList_plain hgd fun _ hK => ?_
  unfold Oper.wp execOp
  simp only [ho, resolve, invoke, builtin, Sem.run_bind, Sem.run_pure, Result.andThen_ok, List.map_toArray, List.map_cons, List.map_nil, hs, hx, hr]
  exact hK _ _ (h v' w' h2 h3 h4)
end
section
theorem ret_bool {a b : Bool} (h : a = b) : Ending.returned (.bool a) = .returned (.bool b) := by rw [h]

def isLet (c : UInt8) : Bool := decide (97 ≤ (c.toNat : Int) ∧ (c.toNat : Int) ≤ 122 ∨ 65 ≤ (c.toNat : Int) ∧ (c.toNat : Int) ≤ 90)
def isDig (c : UInt8) : Bool := decide (48 ≤ (c.toNat : Int) ∧ (c.toNat : Int) ≤ 57)

/-- The words that are no names. -/
def kwords : List (List UInt8) := [[98, 111, 111, 108], [99, 97, 114, 100], [108, 111, 110, 103], [114, 101, 97, 108], [116, 101, 120, 116], [115, 101, 113], [111, 102], [114, 101, 99, 111, 114, 100], [101, 110, 117, 109], [99, 104, 111, 105, 99, 101], [112, 114, 111, 103, 114, 97, 109], [118, 101, 114, 115, 105, 111, 110], [116, 121, 112, 101], [101, 114, 114, 111, 114], [112, 114, 111, 99], [114, 101, 116, 117, 114, 110, 115], [99, 111, 108, 108, 97, 116, 101], [116, 105, 109, 101, 111, 117, 116], [102, 105, 114, 115, 116], [109, 97, 106, 111, 114, 105, 116, 121], [97, 108, 108]]

def isNam (c : UInt8) : Bool := isLet c || isDig c

/-- May it be a name? -/
def named (l : List UInt8) : Bool := decide (1 ≤ l.length ∧ l.length ≤ 20) && isLet (l.getD 0 0) && l.all isNam && !kwords.contains l

theorem all_getD (p : UInt8 → Bool) (l : List UInt8) (h : ∀ j, j < l.length → p (l.getD j 0) = true) : l.all p = true := by
  rw [List.all_eq_true]
  intro x hx
  obtain ⟨j, hj, rfl⟩ := List.getElem_of_mem hx
  have := h j hj
  simpa [List.getD, hj] using this

theorem not_all (p : UInt8 → Bool) (l : List UInt8) (j : Nat) (hj : j < l.length) (h : p (l.getD j 0) = false) : l.all p = false := by
  rw [List.all_eq_false]
  refine ⟨l[j], List.getElem_mem hj, ?_⟩
  simpa [List.getD, hj] using h

theorem letter_any (c : UInt8) (w : World) : Calls Try.prog 75 #[.int .u8 c.toNat] w fun e w' => e = .returned (.bool (isLet c)) ∧ w = w' := by
  unfold isLet
  have h1 : (c.toNat : Int) ≤ 255 := by have := c.toNat_lt; omega
  have h0 : (0 : Int) ≤ (c.toNat : Int) := by omega
  generalize (c.toNat : Int) = n at *
  by_cases a : 97 ≤ n <;> by_cases b : n ≤ 122 <;> by_cases d : 65 ≤ n <;> by_cases e : n ≤ 90 <;>
    first
    | omega
    | (go_enter Try.func75, Try.ntmps75
       go_wp2
       go_ret
       exact ⟨ret_bool (by simp [a, b, d, e]), rfl⟩)

theorem digit_any (c : UInt8) (w : World) : Calls Try.prog 76 #[.int .u8 c.toNat] w fun e w' => e = .returned (.bool (isDig c)) ∧ w = w' := by
  unfold isDig
  have h1 : (c.toNat : Int) ≤ 255 := by have := c.toNat_lt; omega
  have h0 : (0 : Int) ≤ (c.toNat : Int) := by omega
  generalize (c.toNat : Int) = n at *
  by_cases a : 48 ≤ n <;> by_cases b : n ≤ 57 <;>
    first
    | omega
    | (go_enter Try.func76, Try.ntmps76
       go_wp2
       go_ret
       exact ⟨ret_bool (by simp [a, b]), rfl⟩)

theorem reserved_any (s : ByteArray) (w : World) : Calls Try.prog 77 #[.string s] w fun e w' => e = .returned (.bool (kwords.contains s.data.toList)) ∧ w = w' := by
  go_enter Try.func77, Try.ntmps77
  go_wp2
  all_goals go_ret
  all_goals refine ⟨ret_bool ?_, rfl⟩
  all_goals simp_all [Lib.toList_data, kwords]

theorem named_any (s : ByteArray) (w : World) (hs : s.size ≤ maxLen) : Calls Try.prog 69 #[.string s] w fun e w' => e = .returned (.bool (named s.data.toList)) ∧ w = w' := by
  unfold maxLen at hs
  have hl : s.data.toList.length = s.size := rfl
  have Hl := Lib.hid hl
  clear hl
  by_cases h1 : s.size < 1
  · go_enter Try.func69, Try.ntmps69
    go_wp2
    go_ret
    refine ⟨ret_bool ?_, rfl⟩
    simp [named, Hl.out]; omega
  by_cases h2 : 20 < s.size
  · go_enter Try.func69, Try.ntmps69
    go_wp2
    go_ret
    refine ⟨ret_bool ?_, rfl⟩
    simp [named, Hl.out]; omega
  have h3 : 0 < s.size := by omega
  have h4 : ¬ ((s.size : Int) < 1) := by omega
  have h5 : ¬ (20 < (s.size : Int)) := by omega
  obtain ⟨c, hc⟩ : ∃ c, c = s[0] := ⟨_, rfl⟩
  have hg : s.data.toList.getD 0 0 = c := by
    rw [hc, List.getD_eq_getElem?_getD, List.getElem?_eq_getElem (by rw [Hl.out]; exact h3)]
    rfl
  have Hc := Lib.hid hc
  have Hg := Lib.hid hg
  clear hc hg
  by_cases hp : isLet c = true
  · have HP := Lib.hid hp
    clear hp
    go_enter Try.func69, Try.ntmps69
    go_wp2_with fail
    rw [← Hc.out]
    refine (letter_any _ _).mono ?_
    rintro e w' ⟨rfl, rfl⟩
    rw [HP.out]
    go_wp2_with fail
    go_loopg [3, 20] s.size (fun g u3 u20 wr => ∃ k : Nat, k ≤ s.size ∧ g = s.size - k ∧ u20 = .int .i64 k ∧ Hid (∀ j, j < k → isNam (s.data.toList.getD j 0) = true) ∧ wr = w)
    case atStart => exact ⟨0, Nat.zero_le _, rfl, rfl, Lib.hid (fun j hj => by omega), rfl⟩
    case round =>
      obtain ⟨k, hk, rfl, rfl, HA, rfl⟩ := hrel
      by_cases hlt : k < s.size
      · obtain ⟨d, hd⟩ : ∃ d, d = s[k] := ⟨_, rfl⟩
        have hgd : s.data.toList.getD k 0 = d := by
          rw [hd, List.getD_eq_getElem?_getD, List.getElem?_eq_getElem (by rw [Hl.out]; exact hlt)]
          rfl
        have Hd := Lib.hid hd
        have Hgd := Lib.hid hgd
        clear hd hgd
        by_cases ha : isLet d = true
        · have HLet := Lib.hid ha
          clear ha
          go_wp2_with fail
          rw [← Hd.out]
          refine (letter_any _ _).mono ?_
          rintro e w' ⟨rfl, rfl⟩
          rw [HLet.out]
          go_wp2_with fail
          go_roundg (s.size - (k + 1))
          case measure => omega
          case rel => exact ⟨k + 1, by omega, rfl, by go_num, Lib.hid (fun j hj => by
            by_cases h : j < k
            · exact HA.out j h
            · obtain rfl : j = k := by omega
              rw [Hgd.out]; simp [isNam, HLet.out]), rfl⟩
        · have ha' : isLet d = false := by simpa using ha
          have HLet := Lib.hid ha'
          clear ha ha'
          go_wp2_with fail
          rw [← Hd.out]
          refine (letter_any _ _).mono ?_
          rintro e w' ⟨rfl, rfl⟩
          rw [HLet.out]
          go_wp2_with fail
          rw [← Hd.out]
          refine (digit_any _ _).mono ?_
          rintro e w' ⟨rfl, rfl⟩
          by_cases hb : isDig d = true
          · rw [hb]
            have HDig := Lib.hid hb
            clear hb
            go_wp2_with fail
            go_roundg (s.size - (k + 1))
            case measure => omega
            case rel => exact ⟨k + 1, by omega, rfl, by go_num, Lib.hid (fun j hj => by
              by_cases h : j < k
              · exact HA.out j h
              · obtain rfl : j = k := by omega
                rw [Hgd.out]; simp [isNam, HDig.out]), rfl⟩
          · have hb' : isDig d = false := by simpa using hb
            rw [hb']
            have HDig := Lib.hid hb'
            clear hb hb'
            go_wp2_with fail
            go_ret
            refine ⟨ret_bool ?_, rfl⟩
            have := not_all isNam s.data.toList k (by rw [Hl.out]; exact hlt) (by rw [Hgd.out]; simp [isNam, HLet.out, HDig.out])
            simp [named, this]
      · obtain rfl : k = s.size := by omega
        have hall : s.data.toList.all isNam = true := all_getD _ _ (by rw [Hl.out]; exact HA.out)
        have HAll := Lib.hid hall
        clear hall
        go_wp2_with fail
        refine (reserved_any _ _).mono ?_
        rintro e w' ⟨rfl, rfl⟩
        go_wp2_with fail
        go_ret
        refine ⟨ret_bool ?_, rfl⟩
        have e1 : decide (1 ≤ s.data.toList.length ∧ s.data.toList.length ≤ 20) = true := by rw [Hl.out]; simp; omega
        rw [named, e1, HAll.out, Hg.out, HP.out]
        simp
  · have hp' : isLet c = false := by simpa using hp
    have HP := Lib.hid hp'
    clear hp hp'
    go_enter Try.func69, Try.ntmps69
    go_wp2_with fail
    rw [← Hc.out]
    refine (letter_any _ _).mono ?_
    rintro e w' ⟨rfl, rfl⟩
    rw [HP.out]
    go_wp2_with fail
    go_ret
    refine ⟨ret_bool ?_, rfl⟩
    rw [named, Hg.out, HP.out]
    simp
end
section
/-- A byte as a value. -/
def bv (c : UInt8) : Value := .int .u8 c.toNat

theorem bv_one (l : List UInt8) : ∀ u ∈ l.map bv, u.oneCell' = true := by
  intro u hu
  obtain ⟨c, _, rfl⟩ := List.mem_map.1 hu
  rfl

/-- The slice value v shows the bytes l (which others may show, too). -/
def Sees (w : World) (v : Value) (l : List UInt8) : Prop :=
  (l = [] ∧ ∃ a c, v = .slice a 0 c) ∨
  ∃ g off cap, v = .slice (some ⟨g, off, none⟩) l.length cap ∧ l.length ≤ cap ∧ ∀ j, j < l.length → w.cell? ⟨g, off + j, none⟩ = some (bv (l.getD j 0))

/-- The slice value v owns the row of bytes l alone. -/
def Own (w : World) (v : Value) (l : List UInt8) : Prop := w.ownsRow 0 5 1 v l.length (l.map bv)

theorem lenOf_slice {P : Program} (a : Option Addr) (n c : Nat) (w : World) : (Builtin.lenOf (.slice a n c)).run P w = .ok n w := by simp [Builtin.lenOf]
theorem lenOf_string {P : Program} (s : ByteArray) (w : World) : (Builtin.lenOf (.string s)).run P w = .ok s.size w := by simp [Builtin.lenOf]

theorem Sees.lenOf {P : Program} {w : World} {v : Value} {l : List UInt8} (h : Sees w v l) (w' : World) : (Builtin.lenOf v).run P w' = .ok l.length w' := by
  rcases h with ⟨rfl, a, c, rfl⟩ | ⟨g, off, cap, rfl, _, _⟩
  · exact lenOf_slice _ _ _ _
  · exact lenOf_slice _ _ _ _

theorem Sees.first {P : Program} {w : World} {v : Value} {l : List UInt8} (h : Sees w v l) : (Builtin.firstCells 1 l.length v).run P w = .ok (l.map bv).toArray w := by
  rcases h with ⟨rfl, a, c, rfl⟩ | ⟨g, off, cap, rfl, _, hc⟩
  · cases a with
    | none => simp [Builtin.firstCells]
    | some a => exact run_firstCells_some (P := P) w 1 0 a 0 c [] rfl (by simp)
  · refine run_firstCells_some (P := P) w 1 l.length ⟨g, off, none⟩ l.length cap (l.map bv) (by simp) ?_
    intro j v hj
    have hjl : j < l.length := by
      have := (List.getElem?_eq_some_iff.1 hj).1
      simpa using this
    have hplain : (⟨g, off, none⟩ : Addr).add j = ⟨g, off + j, none⟩ := by unfold Addr.add; split <;> simp_all
    rw [hplain, hc j hjl, ← hj]
    simp [List.getD, hjl]

theorem Sees.drew {w : World} {v : Value} {l : List UInt8} (h : Sees w v l) : Sees w.drew v l := h

theorem Sees.fr {S : Nat → Prop} {w w' : World} {v : Value} {l : List UInt8} (h : Sees w v l) (hf : Fr S w w') (hS : ∀ k, v.ownBlock = some k → ¬ S k) : Sees w' v l := by
  rcases h with h | ⟨g, off, cap, rfl, hle, hc⟩
  · exact .inl h
  · refine .inr ⟨g, off, cap, rfl, hle, fun j hj => ?_⟩
    have h1 := hc j hj
    rw [← h1]
    exact hf.cell (World.block_lt_of_cell? w _ h1) (hS g rfl)

theorem string_first {P : Program} (s : ByteArray) (w : World) : (Builtin.firstCells 1 s.size (.string s)).run P w = .ok (s.data.toList.map bv).toArray w := by
  have hx : s.extract 0 s.size = s := by
    apply ByteArray.ext
    rw [ByteArray.data_extract]
    show s.data.extract 0 s.data.size = s.data
    exact Array.extract_size
  have hy : s.data.map (fun b => Value.int IntKind.u8 b.toNat) = (s.data.toList.map bv).toArray := by
    apply Array.ext'
    simp only [Array.toList_map]
    rfl
  simp [Builtin.firstCells, hx, hy]

theorem Own.sees {w : World} {v : Value} {l : List UInt8} (h : Own w v l) : Sees w v l := by
  obtain ⟨_, h2⟩ := h
  rcases h2 with ⟨rfl, h0⟩ | ⟨g, cap, cur, rfl, _, hg, hn, _, hs, ht⟩
  · exact .inl ⟨List.eq_nil_of_length_eq_zero h0, none, 0, rfl⟩
  · refine .inr ⟨g, 0, cap, rfl, hn, fun j hj => ?_⟩
    rw [cell_of_row w g (0 + j) cur _ (0, 0) hg, Nat.zero_add]
    have e : (cur.toList.take (l.length * 1))[j]? = (l.map bv)[j]? := by rw [ht]
    rw [List.getElem?_take, if_pos (by omega)] at e
    rw [← Array.getElem?_toList, e]
    simp [List.getD, hj]

theorem Own.fr {S : Nat → Prop} {w w' : World} {v : Value} {l : List UInt8} (h : Own w v l) (hf : Fr S w w') (hS : ∀ k, v.ownBlock = some k → ¬ S k) : Own w' v l := by
  refine ⟨h.1, ?_⟩
  rcases h.2 with hn | ⟨g, cap, cur, rfl, hb, hgg, rest⟩
  · exact .inl hn
  · refine .inr ⟨g, cap, cur, rfl, hb, ?_, rest⟩
    rw [hf.block g (Array.getElem?_eq_some_iff.1 hgg).1 (hS g rfl)]
    exact hgg

theorem Own.lt {w : World} {v : Value} {l : List UInt8} (h : Own w v l) : ∀ k, v.ownBlock = some k → k < w.heap.size := fun k hk => (World.ownsRow.lt h k hk).2

theorem first_row {P : Program} {w : World} {g : Nat} {cs : Array Value} {t : TypeId} {fr : Nat × Nat} (h : w.heap[g]? = some (.cells cs t fr)) (n c : Nat) (hn : cs.size = n) :
    (Builtin.firstCells 1 n (.slice (some ⟨g, 0, none⟩) n c)).run P w = .ok cs w := by
  have := run_firstCells_some (P := P) w 1 n ⟨g, 0, none⟩ n c cs.toList (by simp [hn]) (by
    intro j v hj
    have hplain : (⟨g, 0, none⟩ : Addr).add j = ⟨g, j, none⟩ := by unfold Addr.add; split <;> simp_all
    rw [hplain, cell_of_row w g j cs t fr h]
    simpa using hj)
  simpa using this

theorem bv_of (n : Int) (h0 : 0 ≤ n) (h1 : n ≤ 255) : bv (UInt8.ofNat n.toNat) = .int .u8 n := by
  unfold bv
  congr 1
  have : (UInt8.ofNat n.toNat).toNat = n.toNat := by simp; omega
  rw [this]; omega

theorem slice_of_own {w : World} {base : Nat} {e : TypeId} {size : Nat} {v : Value} {n : Nat} {xs : List Value} (h : w.ownsRow base e size v n xs) : ∃ a c, v = .slice a n c := by
  rcases h.2 with ⟨rfl, rfl⟩ | ⟨g, cap, cur, rfl, _⟩
  · exact ⟨_, _, rfl⟩
  · exact ⟨_, _, rfl⟩

theorem push_bytes : ∀ (l : List UInt8) (s : ByteArray), (l.map fun c => (c.toNat : Int)).foldl (fun r n => r.push (UInt8.ofNat n.toNat)) s = ⟨s.data ++ l.toArray⟩
  | [], s => by simp
  | c :: l, s => by
    rw [List.map_cons, List.foldl_cons, push_bytes l]
    simp [ByteArray.push]

theorem Sees.shape {w : World} {v : Value} {l : List UInt8} (h : Sees w v l) : ∃ a c, v = .slice a l.length c ∧ (a = none → l = []) := by
  rcases h with ⟨rfl, a, c, rfl⟩ | ⟨g, off, cap, rfl, hle, _⟩
  · exact ⟨a, c, rfl, fun _ => rfl⟩
  · exact ⟨_, cap, rfl, fun h => by cases h⟩

theorem Sees.cap {w : World} {a : Option Addr} {n c : Nat} {l : List UInt8} (h : Sees w (.slice a n c) l) : n = l.length ∧ (n = 0 ∨ n ≤ c) := by
  rcases h with ⟨rfl, _, _, e⟩ | ⟨g, off, cap, e, hle, _⟩
  · simp at e; simp [e]
  · simp at e; omega

/-- string(v) -/
theorem Sees.string {P : Program} {w : World} {v : Value} {l : List UInt8} (h : Sees w v l) (src e dst : TypeId) (hs : P.underlying src = some (.slice e)) (he : P.underlying e = some (.int .u8)) (hd : P.underlying dst = some .string) :
    (convert src dst v).run P w = .ok (.string ⟨l.toArray⟩) w := by
  have main : ∀ a n c, v = .slice (some a) n c → (loadCells a n).run P w = .ok ((l.map fun c => (c.toNat : Int)).map (Value.int .u8)).toArray w → (convert src dst v).run P w = .ok (.string ⟨l.toArray⟩) w := by
    rintro a n c rfl hl
    rw [run_convert_bytes_string w src dst e _ n c hs he hd, run_bytesToString w _ n c _ hl, push_bytes]
    simp [ByteArray.empty, ByteArray.emptyWithCapacity]
    rfl
  have hf := h.first (P := P)
  rcases h with ⟨rfl, a, c, rfl⟩ | ⟨g, off, cap, rfl, _, _⟩
  · cases a with
    | none => rw [run_convert_bytes_nil w src e hs he 0 c dst hd]; rfl
    | some a => exact main a 0 c rfl (by simpa [Builtin.firstCells] using hf)
  · refine main _ _ cap rfl ?_
    simp only [Builtin.firstCells, Nat.mul_one] at hf
    rw [hf, List.map_map]
    rfl

/-- A new row whose first cells are bytes: the slice over it shows them. -/
theorem sees_new {w : World} {cs : Array Value} {t : TypeId} {fr : Nat × Nat} {l : List UInt8} {c : Nat} (g : Nat) (hg : w.heap[g]? = some (.cells cs t fr)) (hc : ∀ j, j < l.length → cs[j]? = some (bv (l.getD j 0))) (hle : l.length ≤ c) :
    Sees w (.slice (some ⟨g, 0, none⟩) l.length c) l := by
  refine .inr ⟨g, 0, c, rfl, hle, fun j hj => ?_⟩
  rw [Nat.zero_add, cell_of_row w g j cs t fr hg, hc j hj]

/-- The bytes of a text, behind '[]byte(s)'. -/
theorem sees_bytes (w : World) (s : ByteArray) (e : TypeId) :
    Sees (w.drew.alloc (.cells (bytesRow s (grownCap w s.size 0 e)) e ((bytesRow s (grownCap w s.size 0 e)).size, (bytesRow s (grownCap w s.size 0 e)).size + 1))) (.slice (some ⟨w.heap.size, 0, none⟩) s.size (grownCap w s.size 0 e)) s.data.toList := by
  have hl : s.data.toList.length = s.size := rfl
  have := sees_new (w := w.drew.alloc (.cells (bytesRow s (grownCap w s.size 0 e)) e ((bytesRow s (grownCap w s.size 0 e)).size, (bytesRow s (grownCap w s.size 0 e)).size + 1))) (l := s.data.toList) (c := grownCap w s.size 0 e) w.heap.size (heap_alloc_new w.drew _) ?_ (by rw [hl]; exact grownCap_ge w _ _ _)
  · rw [hl] at this; exact this
  · intro j hj
    have hj' : j < s.data.size := by simpa using hj
    unfold bytesRow
    rw [Array.getElem?_append_left (by simpa using hj'), Array.getElem?_map, Array.getElem?_eq_getElem hj']
    simp only [bv, List.getD, Option.map_some, Array.getElem?_toList, Array.getElem?_eq_getElem hj', Option.getD_some]
end
section
open Go.RowKit Go.WideShapes Go.ChangeShapes

/-- The slice value v shows the values xs. -/
def SeesL (w : World) (v : Value) (xs : List Value) : Prop :=
  (xs = [] ∧ ∃ a c, v = .slice a 0 c) ∨
  ∃ g off cap, v = .slice (some ⟨g, off, none⟩) xs.length cap ∧ xs.length ≤ cap ∧ ∀ j u, xs[j]? = some u → w.cell? ⟨g, off + j, none⟩ = some u

theorem SeesL.old {w : World} {v : Value} {xs : List Value} (h : SeesL w v xs) : xs = [] ∨ ∀ k, v.ownBlock = some k → k < w.heap.size := by
  rcases h with ⟨h, _⟩ | ⟨g, off, cap, rfl, hle, hc⟩
  · exact .inl h
  · cases xs with
    | nil => exact .inl rfl
    | cons x xs =>
      right
      intro k hk
      simp [Value.ownBlock] at hk
      subst hk
      exact World.block_lt_of_cell? w _ (hc 0 x rfl)

theorem SeesL.fr0 {w w' : World} {v : Value} {xs : List Value} (h : SeesL w v xs) (hf : Fr (fun _ => False) w w') : SeesL w' v xs := by
  rcases h with h | ⟨g, off, cap, rfl, hle, hc⟩
  · exact .inl h
  · refine .inr ⟨g, off, cap, rfl, hle, fun j u hj => ?_⟩
    have h1 := hc j u hj
    rw [← h1]
    exact hf.cell (World.block_lt_of_cell? w _ h1) (fun h => h)

theorem addr_plain {w : World} {a : Addr} {u : Value} (h : w.cell? a = some u) : a = ⟨a.block, a.off, none⟩ := by
  obtain ⟨b, o, s⟩ := a
  cases s with
  | none => rfl
  | some s =>
    exfalso
    unfold World.cell? at h
    split at h
    · simp at h
    · cases h

theorem seesL_of {w : World} {a : Addr} {cap : Nat} {xs : List Value} (hle : xs.length ≤ cap) (hc : ∀ j u, xs[j]? = some u → w.cell? (a.add j) = some u) : SeesL w (.slice (some a) xs.length cap) xs := by
  cases xs with
  | nil => exact .inl ⟨rfl, _, _, rfl⟩
  | cons x xs =>
    have h0 := hc 0 x rfl
    have e0 : a.add 0 = a := by simp [Addr.add]
    rw [e0] at h0
    obtain ⟨b, o, s⟩ := a
    have e := addr_plain h0
    simp at e
    subst e
    refine .inr ⟨b, o, cap, rfl, hle, fun j u hj => ?_⟩
    have h1 := hc j u hj
    have e1 : (⟨b, o, none⟩ : Addr).add j = ⟨b, o + j, none⟩ := by unfold Addr.add; split <;> simp_all
    rw [e1] at h1
    exact h1

section
variable {P : Program} {H : Type} {enc : TypeId × Value → H} {W : World}

theorem sees_ints {t e : TypeId} {k : IntKind} {v : Value} {d : DataW H} {p : List MemPlace} {base : Nat} (ht : P.underlying t = some (.slice e)) (he : P.underlying e = some (.int k)) (hc : P.cellsOf e = 1)
    (hval : Value.okWide P W .any base t v) (hd : DataW.Trod enc P W 0 (fun _ => true) true t v d p) :
    ∃ l : List Int, SeesL W v (l.map (Value.int k)) ∧ ∀ n ∈ l, (Lit.int k n).wf = true := by
  obtain ⟨a, len, cap, rfl⟩ := okWide_slice ht hval
  obtain ⟨fuel, hf⟩ := hd
  rcases open_ints ht he hc hf with ⟨hcs, _⟩ | ⟨x, l, c, zs, hcs, _, hl, hm, hz, _, hcell, hwz⟩
  · simp [Value.cells] at hcs
    obtain ⟨rfl, rfl, rfl⟩ := hcs
    exact ⟨[], .inl ⟨rfl, _, _, rfl⟩, by simp⟩
  · simp [Value.cells] at hcs
    obtain ⟨rfl, rfl, rfl⟩ := hcs
    have hz' : zs.length = cap := by simpa using hz
    refine ⟨zs.take len, ?_, fun n hn => hwz n (List.mem_of_mem_take hn)⟩
    have hlen : ((zs.take len).map (Value.int k)).length = len := by simp; omega
    have := seesL_of (w := W) (a := x) (cap := cap) (xs := (zs.take len).map (Value.int k)) (by rw [hlen]; exact hl) (by
      intro j u hj
      have hjl : j < len := by have := (List.getElem?_eq_some_iff.1 hj).1; rw [hlen] at this; exact this
      rw [hcell j (by omega), ← hj]
      simp [List.getD, hjl, show j < zs.length by omega])
    rw [hlen] at this
    exact this

theorem sees_strs {t e : TypeId} {v : Value} {d : DataW H} {p : List MemPlace} {base : Nat} (ht : P.underlying t = some (.slice e)) (he : P.underlying e = some .string) (hc : P.cellsOf e = 1)
    (hval : Value.okWide P W .any base t v) (hd : DataW.Trod enc P W 0 (fun _ => true) true t v d p) :
    ∃ l : List ByteArray, SeesL W v (l.map Value.string) ∧ ∀ s ∈ l, s.size ≤ maxLen := by
  obtain ⟨a, len, cap, rfl⟩ := okWide_slice ht hval
  obtain ⟨fuel, hf⟩ := hd
  rcases open_strings ht he hc hf with ⟨hcs, _⟩ | ⟨x, l, c, zs, hcs, _, hl, hm, hz, _, hcell, hwz⟩
  · simp [Value.cells] at hcs
    obtain ⟨rfl, rfl, rfl⟩ := hcs
    exact ⟨[], .inl ⟨rfl, _, _, rfl⟩, by simp⟩
  · simp [Value.cells] at hcs
    obtain ⟨rfl, rfl, rfl⟩ := hcs
    have hz' : zs.length = cap := by simpa using hz
    refine ⟨zs.take len, ?_, fun n hn => hwz n (List.mem_of_mem_take hn)⟩
    have hlen : ((zs.take len).map Value.string).length = len := by simp; omega
    have := seesL_of (w := W) (a := x) (cap := cap) (xs := (zs.take len).map Value.string) (by rw [hlen]; exact hl) (by
      intro j u hj
      have hjl : j < len := by have := (List.getElem?_eq_some_iff.1 hj).1; rw [hlen] at this; exact this
      rw [hcell j (by omega), ← hj]
      simp [List.getD, hjl, show j < zs.length by omega])
    rw [hlen] at this
    exact this
end

/-- A slice of bytes that came in, as a list of bytes. -/
theorem sees_u8 {w : World} {v : Value} {l : List Int} (h : SeesL w v (l.map (Value.int .u8))) (hw : ∀ n ∈ l, (Lit.int .u8 n).wf = true) : Sees w v (l.map fun n => UInt8.ofNat n.toNat) := by
  rcases h with ⟨h, a, c, rfl⟩ | ⟨g, off, cap, rfl, hle, hc⟩
  · left
    have : l = [] := by cases l with | nil => rfl | cons _ _ => simp at h
    subst this
    exact ⟨rfl, a, c, rfl⟩
  · right
    refine ⟨g, off, cap, by simp, by simpa using hle, fun j hj => ?_⟩
    simp at hj
    have hb := bounds_u8 (hw _ (List.getElem_mem hj))
    rw [hc j (.int .u8 l[j]) (by simp [hj])]
    have := bv_of l[j] hb.1 hb.2
    simp [List.getD, hj, this]
end
section
theorem SeesL.cells {w : World} {a : Option Addr} {n c : Nat} {xs : List Value} (h : SeesL w (.slice a n c) xs) : n = xs.length ∧ (0 < n → n ≤ c ∧ ∃ g off, a = some ⟨g, off, none⟩ ∧ ∀ j u, xs[j]? = some u → w.cell? ⟨g, off + j, none⟩ = some u) := by
  rcases h with ⟨rfl, a', c', e⟩ | ⟨g, off, cap, e, hle, hc⟩
  · cases e; exact ⟨rfl, fun h => absurd h (by simp)⟩
  · cases e; exact ⟨rfl, fun _ => ⟨hle, g, off, rfl, hc⟩⟩

theorem SeesL.shape {w : World} {v : Value} {xs : List Value} (h : SeesL w v xs) : ∃ a c, v = .slice a xs.length c ∧ (0 < xs.length → xs.length ≤ c ∧ ∃ g off, a = some ⟨g, off, none⟩ ∧ ∀ j u, xs[j]? = some u → w.cell? ⟨g, off + j, none⟩ = some u) := by
  rcases h with ⟨rfl, a', c', rfl⟩ | ⟨g, off, cap, rfl, hle, hc⟩
  · exact ⟨a', c', rfl, fun h => absurd h (by simp)⟩
  · exact ⟨_, cap, rfl, fun _ => ⟨hle, g, off, rfl, hc⟩⟩

abbrev Txt := List UInt8

/-- A text as a value. -/
def sv (l : Txt) : Value := .string ⟨l.toArray⟩

theorem txt_beq (a b : Txt) : ((⟨a.toArray⟩ : ByteArray).toList == (⟨b.toArray⟩ : ByteArray).toList) = decide (a = b) := by
  rw [Lib.toList_data, Lib.toList_data]
  by_cases h : a = b
  · subst h; simp
  · simp [h]

/-- Which of them is the first that is fit: its index, or -1. -/
def firstAt {α : Type} (p : α → Bool) (l : List α) : Int := if l.any p then (l.findIdx p : Nat) else -1

theorem firstAt_found {α : Type} (p : α → Bool) (l : List α) (k : Nat) (hk : k < l.length) (ha : ∀ j, (hj : j < l.length) → j < k → p l[j] = false) (h : p l[k] = true) : firstAt p l = k := by
  unfold firstAt
  have h1 : l.any p = true := List.any_eq_true.2 ⟨_, List.getElem_mem hk, h⟩
  rw [if_pos h1]
  congr 1
  exact (List.findIdx_eq hk).2 ⟨h, fun j hj => ha j (by omega) hj⟩

theorem firstAt_none {α : Type} (p : α → Bool) (l : List α) (ha : ∀ j, (hj : j < l.length) → p l[j] = false) : firstAt p l = -1 := by
  unfold firstAt
  rw [if_neg]
  intro h
  obtain ⟨x, hx, hp⟩ := List.any_eq_true.1 h
  obtain ⟨j, hj, rfl⟩ := List.getElem_of_mem hx
  rw [ha j hj] at hp
  cases hp

theorem firstAt_ge {α : Type} (p : α → Bool) (l : List α) : decide (0 ≤ firstAt p l) = l.any p := by
  unfold firstAt
  split
  · rename_i h; rw [h]; simp
  · rename_i h; simp at h; simp; intro x hx; simp [h x hx]

theorem ret_int {a b : Int} (h : a = b) : Ending.returned (.int .i64 a) = .returned (.int .i64 b) := by rw [h]

theorem index_any (l : List Txt) (s : Txt) (v : Value) (w : World) (h : SeesL w v (l.map sv)) (hs : l.length ≤ maxLen) :
    Calls Try.prog 86 #[v, sv s] w fun e w' => e = .returned (.int .i64 (firstAt (fun d => d = s) l)) ∧ w = w' := by
  unfold maxLen at hs
  obtain ⟨a, c, rfl, hc⟩ := h.shape
  rw [List.length_map] at *
  have Hc := Lib.hid hc
  clear hc h
  unfold sv
  go_enter Try.func86, Try.ntmps86
  go_wp2
  go_loopg [5, 8] l.length (fun g u5 u8 wr => ∃ k : Nat, k ≤ l.length ∧ g = l.length - k ∧ u8 = .int .i64 k ∧ Hid (∀ j, (hj : j < l.length) → j < k → l[j] ≠ s) ∧ wr = w)
  case atStart => exact ⟨0, Nat.zero_le _, rfl, rfl, Lib.hid (fun j _ hj => by omega), rfl⟩
  case round =>
    obtain ⟨k, hk, rfl, rfl, HA, rfl⟩ := hrel
    by_cases hlt : k < l.length
    · obtain ⟨hcap, g, off, rfl, hcell⟩ := Hc.out (by omega)
      obtain ⟨d, hd⟩ : ∃ d, d = l[k] := ⟨_, rfl⟩
      have hck := hcell k (sv d) (by rw [List.getElem?_map, List.getElem?_eq_getElem hlt, hd]; rfl)
      unfold sv at hck
      have Hd := Lib.hid hd
      clear hcell hd
      by_cases he : s = d
      · have hb : (s == d) = true := by simpa using he
        have He := Lib.hid he
        clear he
        go_wp2
        go_ret
        refine ⟨ret_int ?_, rfl⟩
        exact (firstAt_found _ l k hlt (fun j hj hjk => by simpa using HA.out j hj hjk) (by rw [← Hd.out]; simpa using He.out.symm)).symm
      · have hb : (s == d) = false := by simpa using he
        have He := Lib.hid he
        clear he
        go_wp2
        go_roundg (l.length - (k + 1))
        case measure => omega
        case rel => exact ⟨k + 1, by omega, rfl, by go_num, Lib.hid (fun j hj' hj => by
          by_cases h : j < k
          · exact HA.out j hj' h
          · obtain rfl : j = k := by omega
            rw [← Hd.out]; exact fun e => He.out e.symm), rfl⟩
    · obtain rfl : k = l.length := by omega
      go_wp2
      go_ret
      refine ⟨ret_int ?_, rfl⟩
      exact (firstAt_none _ l (fun j hj => by simpa using HA.out j hj hj)).symm

theorem contains_any (l : List Txt) (s : Txt) (v : Value) (w : World) (h : SeesL w v (l.map sv)) (hs : l.length ≤ maxLen) :
    Calls Try.prog 79 #[v, sv s] w fun e w' => e = .returned (.bool (l.any fun d => d = s)) ∧ w = w' := by
  obtain ⟨v0, hv⟩ : ∃ v0, v0 = v := ⟨_, rfl⟩
  rw [← hv] at h ⊢
  obtain ⟨s0, hs0⟩ : ∃ s0, s0 = sv s := ⟨_, rfl⟩
  rw [← hs0]
  have HS := Lib.hid hs0
  clear hv hs0
  go_enter Try.func79, Try.ntmps79
  go_wp2_with fail
  rw [HS.out]
  refine (index_any l s _ _ h hs).mono ?_
  rintro e w' ⟨rfl, rfl⟩
  go_wp2
  go_ret
  refine ⟨ret_bool ?_, rfl⟩
  exact firstAt_ge _ _

theorem seesL_own {w : World} {base : Nat} {e : TypeId} {v : Value} {n : Nat} {xs : List Value} (h : w.ownsRow base e 1 v n xs) : SeesL w v xs := by
  have hn : n = xs.length := by have := h.1; omega
  subst hn
  rcases h.2 with ⟨rfl, h0⟩ | ⟨g, cap, cur, rfl, _, hg, hle, _, hs, ht⟩
  · exact .inl ⟨List.eq_nil_of_length_eq_zero h0, none, 0, rfl⟩
  · refine .inr ⟨g, 0, cap, rfl, hle, fun j u hj => ?_⟩
    have := World.ownsRow.cells (g := g) h rfl j u hj
    have hplain : (⟨g, 0, none⟩ : Addr).add j = ⟨g, j, none⟩ := by unfold Addr.add; split <;> simp_all
    rw [hplain] at this
    rw [Nat.zero_add]
    exact this

theorem Try.infoStr : (Try.prog.info? 9).map (fun i => (i.zero, i.size, i.bytes)) = some (some (.string ⟨#[]⟩), 1, 16) := by kernel_rfl

/-- Block b remembers the names l, in a row of its own; none of its memory is in P. -/
structure Nm (P : Nat → Prop) (w : World) (b : Nat) (l : List Txt) : Prop where
  here : ∃ v, w.heap[b]? = some (.cells #[v] 31 (0, 0)) ∧ w.ownsRow 0 9 1 v l.length (l.map sv) ∧ ∀ k, v.ownBlock = some k → ¬ P k ∧ k ≠ b
  apart : ¬ P b

theorem ownsRow_fr {S : Nat → Prop} {w w' : World} {base : Nat} {e : TypeId} {size : Nat} {v : Value} {n : Nat} {xs : List Value} (h : w.ownsRow base e size v n xs) (hf : Fr S w w') (hS : ∀ k, v.ownBlock = some k → ¬ S k) : w'.ownsRow base e size v n xs := by
  refine ⟨h.1, ?_⟩
  rcases h.2 with hn | ⟨g, cap, cur, rfl, hb, hgg, rest⟩
  · exact .inl hn
  · refine .inr ⟨g, cap, cur, rfl, hb, ?_, rest⟩
    rw [hf.block g (Array.getElem?_eq_some_iff.1 hgg).1 (hS g rfl)]
    exact hgg

/-- What others write elsewhere leaves it as it is. -/
theorem Nm.fr {P S : Nat → Prop} {w w' : World} {b : Nat} {l : List Txt} (h : Nm P w b l) (hf : Fr S w w') (hS : ∀ k, S k → P k) : Nm P w' b l := by
  obtain ⟨⟨v, h1, h2, h3⟩, h4⟩ := h
  refine ⟨⟨v, ?_, ownsRow_fr h2 hf (fun k hk hs => (h3 k hk).1 (hS k hs)), h3⟩, h4⟩
  rw [hf.block b (lt_of_block h1) (fun hs => h4 (hS b hs))]
  exact h1

/-- What is new may be guarded, too. -/
theorem Nm.guard {P Q : Nat → Prop} {w : World} {b : Nat} {l : List Txt} (h : Nm P w b l) (hQ : ∀ k, k < w.heap.size → Q k → P k) : Nm Q w b l := by
  obtain ⟨⟨v, h1, h2, h3⟩, h4⟩ := h
  refine ⟨⟨v, h1, h2, fun k hk => ⟨fun hq => (h3 k hk).1 (hQ k (World.ownsRow.lt h2 k hk).2 hq), (h3 k hk).2⟩⟩, fun hq => h4 (hQ b (lt_of_block h1) hq)⟩

/-- The closure. -/
def namer (b : Nat) : Value := .func (.func 78) #[] #[.pointer (some ⟨b, 0, none⟩)]

theorem naming_any (w : World) : Calls Try.prog 71 #[] w fun e w' => e = .returned (namer w.heap.size) ∧ Fr (fun _ => False) w w' ∧ Nm (fun k => k < w.heap.size) w' w.heap.size [] := by
  go_enter Try.func71, Try.ntmps71
  go_wp2
  go_ret
  exact ⟨rfl, (Fr.refl _ _).alloc _, ⟨_, heap_alloc_new w _, World.ownsRow_nil _ 0 9 1, by intro k hk; cases hk⟩, fun h => Nat.lt_irrefl _ h⟩

/-- The error of the next name. -/
def nameE (l : List Txt) (s : Txt) : Nat := if !named s then 8 else if l.any (fun d => d = s) then 9 else 0

theorem name_next (P : Nat → Prop) (b : Nat) (l : List Txt) (s : Txt) (w : World) (h : Nm P w b l) (hP : ∀ k, P k → k < w.heap.size) (hl : l.length ≤ 1000000) (hs : s.length ≤ maxLen) :
    Calls Try.prog 78 #[sv s, .pointer (some ⟨b, 0, none⟩)] w fun e w' => e = .returned (.int .i64 (nameE l s)) ∧ Fr (fun k => ¬ P k) w w' ∧ (nameE l s = 0 → Nm P w' b (l ++ [s])) := by
  obtain ⟨⟨v, h1, h2, h3⟩, h4⟩ := h
  have hc := cell_of_one h1
  have hf := free_of_one h1
  have hb := lt_of_block h1
  have H1 := Lib.hid h1
  have H2 := Lib.hid h2
  have H3 := Lib.hid h3
  have H4 := Lib.hid h4
  have HP := Lib.hid hP
  clear h1 h2 h3 h4 hP
  have hn : ∀ w, Calls Try.prog 69 #[.string ⟨s.toArray⟩] w fun e w' => e = .returned (.bool (named s)) ∧ w = w' := fun w => named_any ⟨s.toArray⟩ w hs
  have hk : ∀ w0, SeesL w0 v (l.map sv) → Calls Try.prog 79 #[v, .string ⟨s.toArray⟩] w0 fun e w' => e = .returned (.bool (l.any fun d => d = s)) ∧ w0 = w' := fun w0 h => contains_any l s v w0 h (by unfold maxLen; omega)
  unfold sv
  by_cases hm : named s = true
  · have HM := Lib.hid hm
    clear hm
    by_cases ha : (l.any fun d => d = s) = true
    · have HA := Lib.hid ha
      clear ha
      go_enter Try.func78, Try.ntmps78
      go_wp2_with fail
      refine (hn _).mono ?_
      rintro e w' ⟨rfl, rfl⟩
      rw [HM.out]
      go_wp2_with fail
      refine (hk _ (seesL_own H2.out)).mono ?_
      rintro e w' ⟨rfl, rfl⟩
      rw [HA.out]
      go_wp2
      go_ret
      have e1 : nameE l s = 9 := by rw [nameE, HM.out, HA.out]; rfl
      refine ⟨by rw [e1]; rfl, Fr.refl _ _, fun h0 => by rw [e1] at h0; cases h0⟩
    · have ha' : (l.any fun d => d = s) = false := eq_false_of_ne_true ha
      have HA := Lib.hid ha'
      clear ha ha'
      have e1 : nameE l s = 0 := by rw [nameE, HM.out, HA.out]; rfl
      have E1 := Lib.hid e1
      clear e1
      obtain ⟨i0, hi, hz0, hz1, hz2⟩ := info_parts Try.infoStr
      go_enter Try.func78, Try.ntmps78
      go_wp2_with fail
      refine (hn _).mono ?_
      rintro e w' ⟨rfl, rfl⟩
      rw [HM.out]
      go_wp2_with fail
      refine (hk _ (seesL_own H2.out)).mono ?_
      rintro e w' ⟨rfl, rfl⟩
      rw [HA.out]
      go_wp2_with (at_builtin; refine wpList_append_sep rfl (.tmp 10) (.tmp 12) 31 31 rfl 0 9 i0 (.string ⟨#[]⟩) 1 16 Try.underlying31 _ Try.underlying31 (.inr ⟨_, rfl⟩) hi hz0 hz1 hz2 rfl (by decide) v l.length (l.map sv) rfl ?own _ 1 [sv s] rfl (lenOf_slice _ _ _) rfl ?c1 ?c2 ?one ?b1 ?b2 (Nat.zero_le _) ?grow)
      case own => exact World.ownsRow.alloc H2.out _
      case c1 => exact first_row (heap_alloc_new _ _) 1 1 rfl
      case c2 => exact first_row (by exact heap_alloc_new _ _) 1 1 rfl
      case one => intro u hu; simp at hu; subst hu; rfl
      case b1 => unfold maxLen; omega
      case b2 => omega
      case grow =>
        intro v' w1 hown hg hv
        obtain ⟨a, c, rfl⟩ := slice_of_own hown
        have hk1 : w1.heap[b]? = some (.cells #[v] 31 (0, 0)) := by
          rw [hg.block b (by show b < (w.heap.push _).size; simp; omega) (fun e => (H3.out b e.symm).2 rfl), Below.heap_alloc _ _ _ hb]; exact H1.out
        have hc1 := cell_of_one hk1
        have hf1 := free_of_one hk1
        clear hc hf
        have Hk := Lib.hid hk1; clear hk1
        have Hv := Lib.hid hv; clear hv
        have Hg := Lib.hid hg; clear hg
        have Ho := Lib.hid hown; clear hown
        go_wp2
        go_ret
        have hblk : ∀ k, (Value.slice a (l.length + 1) c).ownBlock = some k → ¬ P k ∧ k ≠ b := by
          intro k hk'
          rcases Hv.out with e | e
          · exact H3.out k (e ▸ hk')
          · rw [e] at hk'
            simp at hk'
            exact ⟨fun hp => by have := HP.out k hp; omega, by omega⟩
        have hfr : Fr (fun k => ¬ P k) w w1 := ((Fr.refl _ _).alloc _).trans (Fr.of_grown Hg.out) (fun i _ e => (H3.out i e.symm).1)
        refine ⟨by rw [E1.out]; rfl, hfr.setCell (fun _ => H4.out) _, fun _ => ⟨⟨_, one_setCell Hk.out, ?_, hblk⟩, H4.out⟩⟩
        have := ownsRow_setCell_other Ho.out (a := ⟨b, 0, none⟩) (fun e => (hblk b e).2 rfl) (.slice a (l.length + 1) c)
        rw [List.length_append, List.map_append]
        exact this
  · have hm' : named s = false := by simpa using hm
    have HM := Lib.hid hm'
    clear hm hm'
    go_enter Try.func78, Try.ntmps78
    go_wp2_with fail
    refine (hn _).mono ?_
    rintro e w' ⟨rfl, rfl⟩
    rw [HM.out]
    go_wp2
    go_ret
    have e1 : nameE l s = 8 := by rw [nameE, HM.out]; rfl
    refine ⟨by rw [e1]; rfl, Fr.refl _ _, fun h0 => by rw [e1] at h0; cases h0⟩
end
section
/-- A type: its kind, its greatest length, its names, how many types it consists of, and which ('nil' stands for those that there aren't). -/
inductive KT where
  | nil
  | mk (k : Nat) (m : Int) (ns : List Txt) (n : Nat) (of : Nat → KT)

/-- The slice v shows the texts l, in memory of R. -/
def Texts (R : Nat → Prop) (w : World) (l : List Txt) (v : Value) : Prop :=
  l.length ≤ 1000 ∧ (∀ s ∈ l, s.length ≤ 1000) ∧
  ((l = [] ∧ ∃ a c, v = .slice a 0 c) ∨
   ∃ g off cap, R g ∧ v = .slice (some ⟨g, off, none⟩) l.length cap ∧ l.length ≤ cap ∧ ∀ j s, l[j]? = some s → w.cell? ⟨g, off + j, none⟩ = some (sv s))

/-- The value v shows the type t, in memory of R. -/
def Shows (R : Nat → Prop) (w : World) : KT → Value → Prop
  | .nil, _ => False
  | .mk k m ns n of, v => ∃ vn vo, v = .agg #[.int .u8 k, .int .i64 m, vn, vo] ∧ k ≤ 255 ∧ n ≤ 1000 ∧ Texts R w ns vn ∧
    ((n = 0 ∧ ∃ a c, vo = .slice a 0 c) ∨
     ∃ g off cap, R g ∧ vo = .slice (some ⟨g, off, none⟩) n cap ∧ n ≤ cap ∧ ∀ i, i < n → ∃ x0 x1 x2 x3,
      w.cell? ⟨g, off + i * 4, none⟩ = some x0 ∧ w.cell? ⟨g, off + i * 4 + 1, none⟩ = some x1 ∧ w.cell? ⟨g, off + i * 4 + 2, none⟩ = some x2 ∧ w.cell? ⟨g, off + i * 4 + 3, none⟩ = some x3 ∧
      Shows R w (of i) (.agg #[x0, x1, x2, x3]))

/-- The slice v shows these aliases. -/
def Aliases (R : Nat → Prop) (w : World) (l : List (Txt × KT)) (v : Value) : Prop :=
  l.length ≤ 1000 ∧ (∀ x ∈ l, x.1.length ≤ 1000) ∧
  ((l = [] ∧ ∃ a c, v = .slice a 0 c) ∨
   ∃ g off cap, R g ∧ v = .slice (some ⟨g, off, none⟩) l.length cap ∧ l.length ≤ cap ∧ ∀ i x, l[i]? = some x → ∃ x0 x1 x2 x3,
    w.cell? ⟨g, off + i * 5, none⟩ = some (sv x.1) ∧ w.cell? ⟨g, off + i * 5 + 1, none⟩ = some x0 ∧ w.cell? ⟨g, off + i * 5 + 2, none⟩ = some x1 ∧ w.cell? ⟨g, off + i * 5 + 3, none⟩ = some x2 ∧ w.cell? ⟨g, off + i * 5 + 4, none⟩ = some x3 ∧
    Shows R w x.2 (.agg #[x0, x1, x2, x3]))

theorem cell_fr {R S : Nat → Prop} {w w' : World} (hf : Fr S w w') (hS : ∀ k, R k → ¬ S k) {g o : Nat} {u : Value} (hR : R g) (h : w.cell? ⟨g, o, none⟩ = some u) : w'.cell? ⟨g, o, none⟩ = some u := by
  rw [← h]; exact hf.cell (World.block_lt_of_cell? w _ h) (hS g hR)

theorem Texts.fr {R S : Nat → Prop} {w w' : World} {l : List Txt} {v : Value} (h : Texts R w l v) (hf : Fr S w w') (hS : ∀ k, R k → ¬ S k) : Texts R w' l v := by
  obtain ⟨h1, h2, h3 | ⟨g, off, cap, hg, rfl, hle, hc⟩⟩ := h
  · exact ⟨h1, h2, .inl h3⟩
  · exact ⟨h1, h2, .inr ⟨g, off, cap, hg, rfl, hle, fun j s hj => cell_fr hf hS hg (hc j s hj)⟩⟩

theorem Texts.mono {R S : Nat → Prop} {w : World} {l : List Txt} {v : Value} (h : Texts R w l v) (hS : ∀ k, k < w.heap.size → R k → S k) : Texts S w l v := by
  obtain ⟨h1, h2, h3 | ⟨g, off, cap, hg, rfl, hle, hc⟩⟩ := h
  · exact ⟨h1, h2, .inl h3⟩
  · cases l with
    | nil => exact ⟨h1, h2, .inl ⟨rfl, _, _, rfl⟩⟩
    | cons x l => exact ⟨h1, h2, .inr ⟨g, off, cap, hS g (World.block_lt_of_cell? w _ (hc 0 x rfl)) hg, rfl, hle, hc⟩⟩

theorem Texts.seesL {R : Nat → Prop} {w : World} {l : List Txt} {v : Value} (h : Texts R w l v) : SeesL w v (l.map sv) := by
  obtain ⟨h1, h2, ⟨rfl, a, c, rfl⟩ | ⟨g, off, cap, hg, rfl, hle, hc⟩⟩ := h
  · exact .inl ⟨rfl, a, c, rfl⟩
  · refine .inr ⟨g, off, cap, by simp, by simpa using hle, fun j u hj => ?_⟩
    rw [List.getElem?_map] at hj
    cases hx : l[j]? with
    | none => rw [hx] at hj; cases hj
    | some x => rw [hx] at hj; cases hj; exact hc j x hx

theorem Shows.fr {R S : Nat → Prop} {w w' : World} (hf : Fr S w w') (hS : ∀ k, R k → ¬ S k) (t : KT) : ∀ v, Shows R w t v → Shows R w' t v := by
  induction t with
  | nil => exact fun _ h => h.elim
  | mk k m ns n of ih =>
    rintro v ⟨vn, vo, rfl, hk, hn, ht, ho⟩
    refine ⟨vn, vo, rfl, hk, hn, ht.fr hf hS, ?_⟩
    rcases ho with h | ⟨g, off, cap, hg, rfl, hle, hc⟩
    · exact .inl h
    · refine .inr ⟨g, off, cap, hg, rfl, hle, fun i hi => ?_⟩
      obtain ⟨x0, x1, x2, x3, c0, c1, c2, c3, hx⟩ := hc i hi
      exact ⟨x0, x1, x2, x3, cell_fr hf hS hg c0, cell_fr hf hS hg c1, cell_fr hf hS hg c2, cell_fr hf hS hg c3, ih i _ hx⟩

theorem Shows.mono {R S : Nat → Prop} {w : World} (hS : ∀ k, k < w.heap.size → R k → S k) (t : KT) : ∀ v, Shows R w t v → Shows S w t v := by
  induction t with
  | nil => exact fun _ h => h.elim
  | mk k m ns n of ih =>
    rintro v ⟨vn, vo, rfl, hk, hn, ht, ho⟩
    refine ⟨vn, vo, rfl, hk, hn, ht.mono hS, ?_⟩
    rcases ho with h | ⟨g, off, cap, hg, rfl, hle, hc⟩
    · exact .inl h
    · cases n with
      | zero => exact .inl ⟨rfl, _, _, rfl⟩
      | succ n =>
        refine .inr ⟨g, off, cap, ?_, rfl, hle, fun i hi => ?_⟩
        · obtain ⟨x0, x1, x2, x3, c0, _⟩ := hc 0 (by omega)
          exact hS g (World.block_lt_of_cell? w _ c0) hg
        · obtain ⟨x0, x1, x2, x3, c0, c1, c2, c3, hx⟩ := hc i hi
          exact ⟨x0, x1, x2, x3, c0, c1, c2, c3, ih i _ hx⟩

theorem Aliases.fr {R S : Nat → Prop} {w w' : World} {l : List (Txt × KT)} {v : Value} (h : Aliases R w l v) (hf : Fr S w w') (hS : ∀ k, R k → ¬ S k) : Aliases R w' l v := by
  obtain ⟨h1, h2, h3 | ⟨g, off, cap, hg, rfl, hle, hc⟩⟩ := h
  · exact ⟨h1, h2, .inl h3⟩
  · refine ⟨h1, h2, .inr ⟨g, off, cap, hg, rfl, hle, fun i x hi => ?_⟩⟩
    obtain ⟨x0, x1, x2, x3, c, c0, c1, c2, c3, hx⟩ := hc i x hi
    exact ⟨x0, x1, x2, x3, cell_fr hf hS hg c, cell_fr hf hS hg c0, cell_fr hf hS hg c1, cell_fr hf hS hg c2, cell_fr hf hS hg c3, Shows.fr hf hS _ _ hx⟩

theorem Aliases.mono {R S : Nat → Prop} {w : World} {l : List (Txt × KT)} {v : Value} (h : Aliases R w l v) (hS : ∀ k, k < w.heap.size → R k → S k) : Aliases S w l v := by
  obtain ⟨h1, h2, h3 | ⟨g, off, cap, hg, rfl, hle, hc⟩⟩ := h
  · exact ⟨h1, h2, .inl h3⟩
  · cases l with
    | nil => exact ⟨h1, h2, .inl ⟨rfl, _, _, rfl⟩⟩
    | cons x l =>
      refine ⟨h1, h2, .inr ⟨g, off, cap, ?_, rfl, hle, fun i y hi => ?_⟩⟩
      · obtain ⟨x0, x1, x2, x3, c, _⟩ := hc 0 x rfl
        exact hS g (World.block_lt_of_cell? w _ c) hg
      · obtain ⟨x0, x1, x2, x3, c, c0, c1, c2, c3, hx⟩ := hc i y hi
        exact ⟨x0, x1, x2, x3, c, c0, c1, c2, c3, Shows.mono hS _ _ hx⟩

/-- The shape of a slice of texts, of types, of aliases. -/
theorem Texts.shape {R : Nat → Prop} {w : World} {l : List Txt} {v : Value} (h : Texts R w l v) : ∃ a c, v = .slice a l.length c ∧ (l.length = 0 ∨ l.length ≤ c ∧ ∃ g off, R g ∧ a = some ⟨g, off, none⟩ ∧ ∀ j s, l[j]? = some s → w.cell? ⟨g, off + j, none⟩ = some (sv s)) := by
  obtain ⟨h1, h2, ⟨rfl, a, c, rfl⟩ | ⟨g, off, cap, hg, rfl, hle, hc⟩⟩ := h
  · exact ⟨a, c, rfl, .inl rfl⟩
  · exact ⟨_, cap, rfl, .inr ⟨hle, g, off, hg, rfl, hc⟩⟩

theorem Aliases.shape {R : Nat → Prop} {w : World} {l : List (Txt × KT)} {v : Value} (h : Aliases R w l v) : ∃ a c, v = .slice a l.length c ∧ (l.length = 0 ∨ l.length ≤ c ∧ ∃ g off, R g ∧ a = some ⟨g, off, none⟩ ∧ ∀ i x, l[i]? = some x → ∃ x0 x1 x2 x3,
    w.cell? ⟨g, off + i * 5, none⟩ = some (sv x.1) ∧ w.cell? ⟨g, off + i * 5 + 1, none⟩ = some x0 ∧ w.cell? ⟨g, off + i * 5 + 2, none⟩ = some x1 ∧ w.cell? ⟨g, off + i * 5 + 3, none⟩ = some x2 ∧ w.cell? ⟨g, off + i * 5 + 4, none⟩ = some x3 ∧
    Shows R w x.2 (.agg #[x0, x1, x2, x3])) := by
  obtain ⟨h1, h2, ⟨rfl, a, c, rfl⟩ | ⟨g, off, cap, hg, rfl, hle, hc⟩⟩ := h
  · exact ⟨a, c, rfl, .inl rfl⟩
  · exact ⟨_, cap, rfl, .inr ⟨hle, g, off, hg, rfl, hc⟩⟩

/-- The cells of a type's value. -/
theorem Shows.cells {R : Nat → Prop} {w : World} {t : KT} {x0 x1 x2 x3 : Value} (h : Shows R w t (.agg #[x0, x1, x2, x3])) :
    ∃ (k : Nat) (m : Int) (a : Option Addr) (n c : Nat) (a' : Option Addr) (n' c' : Nat), x0 = .int .u8 k ∧ x1 = .int .i64 m ∧ x2 = .slice a n c ∧ x3 = .slice a' n' c' := by
  cases t with
  | nil => exact h.elim
  | mk k m ns n of =>
    obtain ⟨vn, vo, e, _, _, ht, ho⟩ := h
    simp at e
    obtain ⟨rfl, rfl, rfl, rfl⟩ := e
    obtain ⟨a, c, rfl, _⟩ := ht.shape
    rcases ho with ⟨_, a', c', rfl⟩ | ⟨g, off, cap, _, rfl, _⟩
    · exact ⟨k, m, a, _, c, a', _, c', rfl, rfl, rfl, rfl⟩
    · exact ⟨k, m, a, _, c, _, _, cap, rfl, rfl, rfl, rfl⟩

theorem Shows.four {R : Nat → Prop} {w : World} {t : KT} {v : Value} (h : Shows R w t v) :
    ∃ (k : Nat) (m : Int) (a : Option Addr) (n c : Nat) (a' : Option Addr) (n' c' : Nat), v = .agg #[.int .u8 k, .int .i64 m, .slice a n c, .slice a' n' c'] := by
  obtain ⟨x0, x1, x2, x3, rfl⟩ : ∃ x0 x1 x2 x3, v = .agg #[x0, x1, x2, x3] := by
    cases t with
    | nil => exact h.elim
    | mk k m ns n of =>
      obtain ⟨vn, vo, e, _⟩ := h
      exact ⟨_, _, _, _, e⟩
  obtain ⟨k, m, a, n, c, a', n', c', rfl, rfl, rfl, rfl⟩ := h.cells
  exact ⟨k, m, a, n, c, a', n', c', rfl⟩

/-- The first aliases of some. -/
theorem Aliases.take {R : Nat → Prop} {w : World} {l : List (Txt × KT)} {a : Option Addr} {n c : Nat} (h : Aliases R w l (.slice a n c)) (i : Nat) (hi : i ≤ l.length) : Aliases R w (l.take i) (.slice a i c) := by
  obtain ⟨h1, h2, h3⟩ := h
  refine ⟨by rw [List.length_take]; omega, fun x hx => h2 x (List.mem_of_mem_take hx), ?_⟩
  rcases h3 with ⟨rfl, a', c', e⟩ | ⟨g, off, cap, hg, e, hle, hc⟩
  · cases e
    simp at hi
    subst hi
    exact .inl ⟨rfl, _, _, rfl⟩
  · cases e
    have e1 : (l.take i).length = i := by rw [List.length_take]; omega
    refine .inr ⟨g, off, _, hg, by rw [e1], by omega, fun j x hj => hc j x ?_⟩
    rw [List.getElem?_take] at hj
    split at hj
    · exact hj
    · cases hj

/-- A greatest length if, and only if, it needs one? -/
def sizedB (k : Nat) (m : Int) : Bool := if k = 4 ∨ k = 5 then decide (1 ≤ m ∧ m ≤ 60) else decide (m = 0)

/-- As many names and types as the kind asks for? -/
def formedB (k nn n : Nat) : Bool :=
  if k = 5 then decide (nn = 0 ∧ n = 1) else if k = 6 ∨ k = 8 then decide (n = nn) else if k = 7 then decide (n = 0) else if k = 9 then decide (nn = 1 ∧ n = 0) else decide (nn = 0 ∧ n = 0)

/-- The first error of names, behind those of bef. -/
def namesE (bef : List Txt) : List Txt → Nat
  | [] => 0
  | s :: r => if nameE bef s = 0 then namesE (bef ++ [s]) r else nameE bef s

def checkNamesE (ns : List Txt) : Nat := if ns.length < 1 ∨ 12 < ns.length then 7 else namesE [] ns

/-- The first error of n that are asked in order. -/
def firstE (f : Nat → Nat) : Nat → Nat
  | 0 => 0
  | n + 1 => if firstE f n = 0 then f n else firstE f n

theorem firstE_stop (f : Nat → Nat) (n k : Nat) (hk : k < n) (h0 : firstE f k = 0) (h : f k ≠ 0) : firstE f n = f k := by
  induction n with
  | zero => omega
  | succ n ih =>
    unfold firstE
    by_cases e : k = n
    · subst e; rw [if_pos h0]
    · have := ih (by omega)
      rw [if_neg (by rw [this]; exact h)]
      exact this

theorem firstE_step (f : Nat → Nat) (k : Nat) (h0 : firstE f k = 0) (h : f k = 0) : firstE f (k + 1) = 0 := by
  unfold firstE; rw [if_pos h0]; exact h

/-- The index of the alias for which a type of these names stands, or -1. -/
def standsN (known : List (Txt × KT)) (ns : List Txt) : Int := match ns with
  | [s] => firstAt (fun x => decide (x.1 = s)) known
  | _ => -1

/-- The first error of a type, where these aliases are known. -/
def rightE (known : List (Txt × KT)) : KT → Nat → Nat
  | .nil, _ => 0
  | .mk k m ns n of, lv =>
    if 10 ≤ k ∨ lv = 0 then 5
    else if !sizedB k m then 2
    else if !formedB k ns.length n then 4
    else
      let e := if k = 6 ∨ k = 7 ∨ k = 8 then checkNamesE ns else if k = 9 then (if standsN known ns < 0 then 10 else 0) else 0
      if e = 0 then firstE (fun i => rightE known (of i) (lv - 1)) n else e
end
section
set_option maxRecDepth 100000

theorem Try.infoU8 : (Try.prog.info? 5).map (fun i => (i.zero, i.size, i.bytes)) = some (some (.int .u8 0), 1, 1) := by kernel_rfl

/-- What strings.Clone does to memory, step by step: a row is made, the bytes go into it, it is read as a text. -/
theorem clone_steps (s : ByteArray) (h0 : 0 < s.size) (hlim : s.size ≤ 281474976710656) (w : World) : ∃ (w0 w1 w2 : World),
    (Instr.makeSlice 26 (.int .i64 (s.size : Int)) (.int .i64 (s.size : Int))).run Try.prog w = .ok (.slice (some ⟨w.heap.size, 0, none⟩) s.size s.size) w0 ∧
    (Builtin.copy_ #[26, 9] 3 #[.slice (some ⟨w.heap.size, 0, none⟩) s.size s.size, .string s]).run Try.prog w0 = .ok (goInt s.size) w1 ∧
    (Builtin.unsafeString_ #[158, 3] 9 #[.pointer (some ⟨w.heap.size, 0, none⟩), .int .i64 (s.size : Int)]).run Try.prog w1 = .ok (.string s) w2 ∧ Fr (fun _ => False) w w2 := by
  obtain ⟨i0, hi, hz0, hz1, hz2⟩ := info_parts Try.infoU8
  have hls : s.data.toList.length = s.size := rfl
  have hbl : (Lib.byteCells s.data.toList).length = s.size := (Lib.byteCells_length _).trans hls
  obtain ⟨w0, hw0⟩ : ∃ w0, w0 = w.alloc (.cells (madeCells (Value.int .u8 0).cells (s.size * 1)) 5) := ⟨_, rfl⟩
  have m := run_make (P := Try.prog) w 26 5 i0 (.int .u8 0) Try.underlying26 hi hz0 .i64 .i64 (s.size : Int) (s.size : Int) (Int.natCast_nonneg _) (Int.le_refl _) (by rw [hz2]; omega) (by omega)
  rw [Int.toNat_natCast, hz1, ← hw0] at m
  have g0 : w0.heap[w.heap.size]? = some (.cells (madeCells (Value.int .u8 0).cells (s.size * 1)) 5 (0, 0)) := by rw [hw0]; exact heap_alloc_new w _
  have k := Lib.run_copy_row_string (P := Try.prog) w0 26 9 3 5 w.heap.size 0 s.size s.size s _ 5 Try.underlying26 (by rw [hi]; exact congrArg some hz1) g0 (Nat.le_refl _) (by rw [size_madeCells]; omega)
  rw [List.take_zero, List.nil_append, List.drop_of_length_le (by rw [Array.length_toList, size_madeCells]; omega), List.append_nil] at k
  have g1 := setRow_heap w0 w.heap.size _ (Lib.byteCells s.data.toList).toArray 5 (0, 0) g0
  have u := Lib.run_unsafeString_row (P := Try.prog) (w0.setRow w.heap.size (Lib.byteCells s.data.toList).toArray) 158 3 9 5 Try.underlying158 (by unfold Program.cellsOf; rw [hi]; exact hz1) w.heap.size s.size (by unfold World.shape?; rw [g1]; simp [hbl]) s.data.toList
    (fun e => by rw [e] at hls; simp at hls; omega) (Nat.le_of_eq hls) (by omega) (fun j x hx => by
      have hplain : (⟨w.heap.size, 0, none⟩ : Addr).add j = ⟨w.heap.size, j, none⟩ := by unfold Addr.add; split <;> simp_all
      rw [hplain, cell_of_row _ w.heap.size j _ 5 (0, 0) g1]
      simp [Lib.byteCells, hx])
  refine ⟨w0, _, _, m, k, u, ?_⟩
  have f1 : Fr (fun _ => False) w (w0.setRow w.heap.size (Lib.byteCells s.data.toList).toArray) := by
    have f0 : Fr (fun _ => False) w w0 := by rw [hw0]; exact (Fr.refl _ _).alloc _
    exact ⟨f0.os, f0.tape, f0.output, by have := f0.size; simp; omega, fun b hb hs => (setRow_other _ _ _ _ (by omega)).trans (f0.block b hb hs)⟩
  have B : Below w.heap.size w _ := Lib.below_freeze (f1.below (Nat.le_refl _) (fun _ _ h => h)) (p := ⟨w.heap.size, 0, none⟩) (Nat.le_refl _) s.data.toList.length
  exact ⟨B.os, B.tape, B.output, B.size, fun b hb _ => B.block b hb⟩

/-- A text's copy: the same bytes; what it is made of is new. -/
theorem lit_clone (s : ByteArray) (w : World) (hlim : s.size ≤ 281474976710656) :
    Calls Try.prog 99 #[.string s] w fun e w' => e = .returned (.string s) ∧ Fr (fun _ => False) w w' := by
  rcases Nat.eq_zero_or_pos s.size with h0 | h0
  · obtain rfl : s = ⟨#[]⟩ := ByteArray.ext (Array.eq_empty_of_size_eq_zero h0)
    go_enter Try.func99, Try.ntmps99
    go_wp2
    go_ret
    exact ⟨rfl, Fr.refl _ _⟩
  · obtain ⟨w0, w1, w2, m, k, u, f⟩ := clone_steps s h0 hlim w
    go_enter Try.func99, Try.ntmps99
    go_wp2
    go_ret
    exact ⟨rfl, f⟩

theorem clone_any (s : ByteArray) (w : World) (hlim : s.size ≤ 281474976710656) :
    Calls Try.prog 98 #[.string s] w fun e w' => e = .returned (.string s) ∧ Fr (fun _ => False) w w' := by
  go_enter Try.func98, Try.ntmps98
  go_wp2_with fail
  refine (lit_clone _ _ hlim).mono ?_
  rintro e w' ⟨rfl, f1⟩
  go_wp2
  go_ret
  exact ⟨rfl, f1⟩


theorem SeesL.first {P : Program} {w : World} {v : Value} {xs : List Value} (h : SeesL w v xs) : (Builtin.firstCells 1 xs.length v).run P w = .ok xs.toArray w := by
  rcases h with ⟨rfl, a, c, rfl⟩ | ⟨g, off, cap, rfl, _, hc⟩
  · cases a with
    | none => simp [Builtin.firstCells]
    | some a => exact run_firstCells_some (P := P) w 1 0 a 0 c [] rfl (by simp)
  · refine run_firstCells_some (P := P) w 1 xs.length ⟨g, off, none⟩ xs.length cap xs (by simp) ?_
    intro j v hj
    have hplain : (⟨g, off, none⟩ : Addr).add j = ⟨g, off + j, none⟩ := by unfold Addr.add; split <;> simp_all
    rw [hplain, hc j v hj]

theorem SeesL.drew {w : World} {v : Value} {xs : List Value} (h : SeesL w v xs) : SeesL w.drew v xs := h

theorem empty_row (w : World) (base : Nat) (hb : base ≤ w.heap.size) (e : TypeId) (size : Nat) : (w.alloc (.cells #[] e)).ownsRow base e size (.slice (some ⟨w.heap.size, 0, none⟩) 0 0) 0 [] :=
  ⟨by simp, .inr ⟨w.heap.size, 0, #[], rfl, hb, heap_alloc_new w _, Nat.le_refl _, by unfold maxLen; omega, by simp, by simp⟩⟩

theorem sv_one (l : List Txt) : ∀ u ∈ l.map sv, u.oneCell' = true := by
  intro u hu
  obtain ⟨c, _, rfl⟩ := List.mem_map.1 hu
  rfl

/-- The call made the slice v of these texts anew. -/
def NewTexts (w w' : World) (l : List Txt) (v : Value) : Prop := Texts (fun k => w.heap.size ≤ k) w' l v ∧ Fr (fun _ => False) w w'

/-- slices.Clone of texts: a row of its own, or nil. -/
theorem cloneTexts_any (R : Nat → Prop) (l : List Txt) (v : Value) (w : World) (h : Texts R w l v) :
    Calls Try.prog 97 #[v] w fun e w' => ∃ v', e = .returned v' ∧ w'.ownsRow w.heap.size 9 1 v' l.length (l.map sv) ∧ Fr (fun _ => False) w w' := by
  obtain ⟨i0, hi, hz0, hz1, hz2⟩ := info_parts Try.infoStr
  have qT : ∀ (w : World) (a : Option Addr) (n c n' c' : Nat), (binOp .eql 31 (.slice a n c) (.slice none n' c')).run Try.prog w = .ok (.bool a.isNone) w := fun w a n c n' c' => Lib.run_eql_slice_nil w _ _ a n c n' c' Try.underlying31
  have hl0 : l.length ≤ 1000 := h.1
  have hL := h.seesL
  obtain ⟨a, c, rfl, hc⟩ := h.shape
  cases a with
  | none =>
    have hn : l = [] := by
      rcases hc with hz | ⟨_, g, off, _, e, _⟩
      · exact List.eq_nil_of_length_eq_zero hz
      · cases e
    subst hn
    go_enter Try.func97, Try.ntmps97
    go_wp2
    go_ret
    exact ⟨_, rfl, World.ownsRow_nil w _ 9 1, Fr.refl _ _⟩
  | some a =>
    go_enter Try.func97, Try.ntmps97
    have f0 : Fr (fun _ => False) w (w.alloc (.cells #[] 9)) := (Fr.refl _ _).alloc _
    have hS := hL.fr0 f0
    have hF : ∀ w' : World, SeesL w' (.slice (some a) l.length c) (l.map sv) → (Builtin.firstCells 1 l.length (.slice (some a) l.length c)).run Try.prog w' = .ok (l.map sv).toArray w' := fun w' h => by
      have := h.first (P := Try.prog)
      rwa [List.length_map] at this
    have HF := Lib.hid hF
    have HS := Lib.hid hS
    have HF0 := Lib.hid f0
    clear hF hS hL hc h f0
    go_wp2_with (at_builtin; refine wpList_append_sep rfl (.tmp 5) (.tmp 6) 31 31 rfl w.heap.size 9 i0 (.string ⟨#[]⟩) 1 16 Try.underlying31 _ Try.underlying31 (.inr ⟨_, rfl⟩) hi hz0 hz1 hz2 rfl (by decide) (.slice (some ⟨w.heap.size, 0, none⟩) 0 0) 0 [] rfl ?own _ l.length (l.map sv) rfl (lenOf_slice _ _ _) ?len ?c1 ?c2 ?one ?b1 ?b2 ?base ?grow)
    case own => exact empty_row w _ (Nat.le_refl _) _ _
    case len => simp
    case c1 => exact HF.out _ HS.out
    case c2 => exact HF.out _ HS.out.drew
    case one => exact sv_one l
    case b1 => unfold maxLen; omega
    case b2 => omega
    case base => simp
    case grow =>
      intro v' w1 hown hg hv
      obtain ⟨a1, c1, rfl⟩ := slice_of_own hown
      have Ho := Lib.hid hown
      have Hg := Lib.hid hg
      clear hown hg hv
      go_wp2
      go_ret
      refine ⟨_, rfl, ?_, ?_⟩
      · have := Ho.out
        simpa using this
      · have := Fr.trans HF0.out (Fr.of_grown Hg.out) (S := fun _ => False) (fun i hi e => by simp [Value.ownBlock] at e; omega)
        exact this

theorem texts_own {w : World} {base : Nat} {l : List Txt} {v : Value} (h : w.ownsRow base 9 1 v l.length (l.map sv)) (h1 : l.length ≤ 1000) (h2 : ∀ s ∈ l, s.length ≤ 1000) : Texts (fun k => base ≤ k) w l v := by
  refine ⟨h1, h2, ?_⟩
  have hc := seesL_own h
  rcases h.2 with ⟨rfl, h0⟩ | ⟨g, cap, cur, rfl, hb, hg, hle, _, hs, ht⟩
  · exact .inl ⟨List.eq_nil_of_length_eq_zero h0, none, 0, rfl⟩
  · refine .inr ⟨g, 0, cap, hb, rfl, hle, fun j s hj => ?_⟩
    have := World.ownsRow.cells (g := g) h rfl j (sv s) (by rw [List.getElem?_map, hj]; rfl)
    have hplain : (⟨g, 0, none⟩ : Addr).add j = ⟨g, j, none⟩ := by unfold Addr.add; split <;> simp_all
    rw [hplain] at this
    rw [Nat.zero_add]
    exact this

theorem set_same (l : List Txt) (k : Nat) (hk : k < l.length) : (l.map sv).set k (sv l[k]) = l.map sv := by
  rw [← List.map_set]
  congr 1
  exact List.set_getElem_self hk

/-- copiedNames: the same texts, in new memory. -/
theorem copied_names (R : Nat → Prop) (l : List Txt) (v : Value) (w : World) (h : Texts R w l v) :
    Calls Try.prog 96 #[v] w fun e w' => ∃ v', e = .returned v' ∧ NewTexts w w' l v' := by
  have hl0 : l.length ≤ 1000 := h.1
  have hs0 := Lib.hid h.2.1
  have hcl := cloneTexts_any R l v w h
  obtain ⟨a0, c0, rfl, _⟩ := h.shape
  clear h
  go_enter Try.func96, Try.ntmps96
  go_wp2_with fail
  refine hcl.mono ?_
  rintro e w1 ⟨v1, rfl, hO, f1⟩
  clear hcl
  obtain ⟨a, c, rfl⟩ := slice_of_own hO
  have HO := Lib.hid hO
  have F1 := Lib.hid f1
  clear hO f1
  go_wp2
  go_loopg [3, 4, 9] l.length (fun G u3 u4 u9 wr => ∃ k : Nat, k ≤ l.length ∧ G = l.length - k ∧ u9 = .int .i64 k ∧ Hid (wr.ownsRow w.heap.size 9 1 (.slice a l.length c) l.length (l.map sv) ∧ Fr (fun _ => False) w wr))
  case atStart => exact ⟨0, Nat.zero_le _, rfl, by go_num, Lib.hid ⟨HO.out, F1.out⟩⟩
  case round =>
    obtain ⟨k, hk, rfl, rfl, HI⟩ := hrel
    by_cases hlt : k < l.length
    · obtain ⟨g, cap, rfl, hg, hle⟩ : ∃ g cap, a = some ⟨g, 0, none⟩ ∧ w.heap.size ≤ g ∧ l.length ≤ cap ∧ c = cap := by
        rcases HI.out.1.2 with ⟨e, h0⟩ | ⟨g, cap, cur, e, hb, _, hn, _⟩
        · omega
        · cases e; exact ⟨g, c, rfl, hb, hn, rfl⟩
      obtain ⟨hle, rfl⟩ := hle
      have hplain : ∀ j, (⟨g, 0, none⟩ : Addr).add j = ⟨g, j, none⟩ := fun j => by unfold Addr.add; split <;> simp_all
      have hck := World.ownsRow.cells (g := g) HI.out.1 rfl k (sv l[k]) (by rw [List.getElem?_map, List.getElem?_eq_getElem hlt]; rfl)
      rw [hplain] at hck
      have PL := Lib.hid hplain
      clear hplain
      obtain ⟨d, hd⟩ : ∃ d, d = l[k] := ⟨_, rfl⟩
      rw [← hd] at hck
      unfold sv at hck
      have hdl : d.length ≤ 1000 := hs0.out d (by rw [hd]; exact List.getElem_mem hlt)
      have Hd := Lib.hid hd
      clear hd
      go_wp2_with fail
      refine (clone_any ⟨d.toArray⟩ wr (by show d.toArray.size ≤ _; simp; omega)).mono ?_
      rintro e w2 ⟨rfl, f2⟩
      have hO2 := ownsRow_fr HI.out.1 f2 (fun _ _ h => h)
      have hck2 := World.ownsRow.cells (g := g) hO2 rfl k (sv l[k]) (by rw [List.getElem?_map, List.getElem?_eq_getElem hlt]; rfl)
      rw [PL.out, ← Hd.out] at hck2
      unfold sv at hck2
      have hfz := World.ownsRow.frozenAt hO2 k
      have HO2 := Lib.hid hO2
      have F2 := Lib.hid f2
      clear hO2 f2 hck
      go_wp2
      go_roundg (l.length - (k + 1))
      case measure => omega
      case rel =>
        refine ⟨k + 1, by omega, rfl, by go_num, Lib.hid ⟨?_, ?_⟩⟩
        · have h1 := (World.ownsRow.stored HO2.out k (sv l[k])).1
          rw [set_same l k hlt, ← Hd.out] at h1
          exact h1
        · exact Fr.setCell (p := ⟨g, k, none⟩) (HI.out.2.trans F2.out (fun _ _ h => h)) (fun h => absurd h (Nat.not_lt.2 hg)) _
    · obtain rfl : k = l.length := by omega
      go_wp2
      go_ret
      exact ⟨_, rfl, texts_own HI.out.1 hl0 hs0.out, HI.out.2⟩
end
section
def be2 (n : Nat) : List UInt8 := [UInt8.ofNat (n / 256), UInt8.ofNat (n % 256)]

def be4 (n : Nat) : List UInt8 := be2 (n / 65536) ++ be2 (n % 65536)
def be8 (n : Nat) : List UInt8 := be4 (n / 4294967296) ++ be4 (n % 4294967296)
theorem be2_length (n : Nat) : (be2 n).length = 2 := rfl
theorem be4_length (n : Nat) : (be4 n).length = 4 := rfl
theorem be8_length (n : Nat) : (be8 n).length = 8 := rfl

/-- The number that bytes tell, the highest one first. -/
def beNum (l : List UInt8) : Nat := l.foldl (fun n c => n * 256 + c.toNat) 0

theorem beNum_snoc (l : List UInt8) (c : UInt8) : beNum (l ++ [c]) = beNum l * 256 + c.toNat := by simp [beNum]
theorem beFold_lt : ∀ (l : List UInt8) (n : Nat), l.foldl (fun n c => n * 256 + c.toNat) n < (n + 1) * 256 ^ l.length
  | [], n => by simp
  | c :: l, n => by
    have h := beFold_lt l (n * 256 + c.toNat)
    have hc := c.toNat_lt
    rw [List.foldl_cons, List.length_cons, Nat.pow_succ]
    have h2 : (n * 256 + c.toNat + 1) * 256 ^ l.length ≤ ((n + 1) * 256) * 256 ^ l.length := Nat.mul_le_mul_right _ (by omega)
    have h3 : ((n + 1) * 256) * 256 ^ l.length = (n + 1) * (256 ^ l.length * 256) := by rw [Nat.mul_assoc, Nat.mul_comm 256]
    omega
theorem beNum_lt (l : List UInt8) : beNum l < 256 ^ l.length := by have := beFold_lt l 0; simpa [beNum] using this
theorem beNum_small (l : List UInt8) (k : Nat) (h : l.length ≤ k) : beNum l < 256 ^ k := Nat.lt_of_lt_of_le (beNum_lt l) (Nat.pow_le_pow_right (by omega) h)

theorem beNum_be2 (n : Nat) (h : n < 65536) : beNum (be2 n) = n := by
  simp [beNum, be2]
  omega
theorem beNum_append (l m : List UInt8) : beNum (l ++ m) = beNum l * 256 ^ m.length + beNum m := by
  have h : ∀ (m : List UInt8) (a : Nat), m.foldl (fun n c => n * 256 + c.toNat) a = a * 256 ^ m.length + m.foldl (fun n c => n * 256 + c.toNat) 0 := by
    intro m
    induction m with
    | nil => simp
    | cons c m ih =>
      intro a
      rw [List.foldl_cons, List.foldl_cons, ih, ih (0 * 256 + c.toNat), List.length_cons, Nat.pow_succ, Nat.add_mul, Nat.zero_mul, Nat.zero_add, Nat.mul_assoc, Nat.mul_comm 256]
      omega
  unfold beNum
  rw [List.foldl_append, h]
theorem beNum_be4 (n : Nat) (h : n < 4294967296) : beNum (be4 n) = n := by
  unfold be4
  rw [beNum_append, beNum_be2 _ (by omega), beNum_be2 _ (by omega), be2_length]
  omega
theorem beNum_be8 (n : Nat) (h : n < 18446744073709551616) : beNum (be8 n) = n := by
  unfold be8
  rw [beNum_append, beNum_be4 _ (by omega), beNum_be4 _ (by omega), be4_length]
  omega

theorem be2_beNum (l : List UInt8) (h : l.length = 2) : be2 (beNum l) = l := by
  match l, h with
  | [a, b], _ =>
    have ha := a.toNat_lt
    have hb := b.toNat_lt
    simp only [beNum, List.foldl_cons, List.foldl_nil, be2, Nat.zero_mul, Nat.zero_add]
    rw [show (a.toNat * 256 + b.toNat) / 256 = a.toNat by omega, show (a.toNat * 256 + b.toNat) % 256 = b.toNat by omega]
    simp
theorem be4_beNum (l : List UInt8) (h : l.length = 4) : be4 (beNum l) = l := by
  have e : l = l.take 2 ++ l.drop 2 := (List.take_append_drop 2 l).symm
  have h1 : (l.take 2).length = 2 := by simp; omega
  have h2 : (l.drop 2).length = 2 := by simp; omega
  have s1 := beNum_small (l.take 2) 2 (by omega)
  have s2 := beNum_small (l.drop 2) 2 (by omega)
  have hn : beNum l = beNum (l.take 2) * 65536 + beNum (l.drop 2) := by
    conv => lhs; rw [e]
    rw [beNum_append, h2]
  unfold be4
  rw [hn, show (beNum (l.take 2) * 65536 + beNum (l.drop 2)) / 65536 = beNum (l.take 2) by omega, show (beNum (l.take 2) * 65536 + beNum (l.drop 2)) % 65536 = beNum (l.drop 2) by omega, be2_beNum _ h1, be2_beNum _ h2]
  exact e.symm
theorem be8_beNum (l : List UInt8) (h : l.length = 8) : be8 (beNum l) = l := by
  have e : l = l.take 4 ++ l.drop 4 := (List.take_append_drop 4 l).symm
  have h1 : (l.take 4).length = 4 := by simp; omega
  have h2 : (l.drop 4).length = 4 := by simp; omega
  have s1 := beNum_small (l.take 4) 4 (by omega)
  have s2 := beNum_small (l.drop 4) 4 (by omega)
  have hn : beNum l = beNum (l.take 4) * 4294967296 + beNum (l.drop 4) := by
    conv => lhs; rw [e]
    rw [beNum_append, h2]
  unfold be8
  rw [hn, show (beNum (l.take 4) * 4294967296 + beNum (l.drop 4)) / 4294967296 = beNum (l.take 4) by omega, show (beNum (l.take 4) * 4294967296 + beNum (l.drop 4)) % 4294967296 = beNum (l.drop 4) by omega, be4_beNum _ h1, be4_beNum _ h2]
  exact e.symm
end
section
theorem be2_new {P : Program} {n : Int} (h0 : 0 ≤ n) (h1 : n ≤ 65535) (w : World) : (Builtin.firstCells 1 2 (.slice (some ⟨w.heap.size, 0, none⟩) 2 2)).run P (w.alloc (.cells #[.int .u8 (n / 256), .int .u8 (n % 256)] 5)) =
    .ok ((be2 n.toNat).map bv).toArray (w.alloc (.cells #[.int .u8 (n / 256), .int .u8 (n % 256)] 5)) := by
  rw [first_row (heap_alloc_new w _) 2 2 rfl]
  have e1 := bv_of (n / 256) (by omega) (by omega)
  have e2 := bv_of (n % 256) (by omega) (by omega)
  rw [show (n / 256).toNat = n.toNat / 256 by omega] at e1
  rw [show (n % 256).toNat = n.toNat % 256 by omega] at e2
  simp [be2, e1, e2]

theorem zero_new {P : Program} (w : World) : (Builtin.firstCells 1 1 (.slice (some ⟨w.heap.size, 0, none⟩) 1 1)).run P (w.alloc (.cells #[.int .u8 0] 5)) =
    .ok ([(0 : UInt8)].map bv).toArray (w.alloc (.cells #[.int .u8 0] 5)) := first_row (heap_alloc_new w _) 1 1 rfl

/-- The call made the slice v of the bytes l, anew. -/
def Made (v : Value) (l : List UInt8) (w w' : World) : Prop := Own w' v l ∧ Fr (fun _ => False) w w' ∧ (∀ k, v.ownBlock = some k → w.heap.size ≤ k)

theorem own_new2 {n : Int} (h0 : 0 ≤ n) (h1 : n ≤ 65535) (w : World) : Own (w.alloc (.cells #[.int .u8 (n / 256), .int .u8 (n % 256)] 5)) (.slice (some ⟨w.heap.size, 0, none⟩) 2 2) (be2 n.toNat) := by
  have e1 := bv_of (n / 256) (by omega) (by omega)
  have e2 := bv_of (n % 256) (by omega) (by omega)
  rw [show (n / 256).toNat = n.toNat / 256 by omega] at e1
  rw [show (n % 256).toNat = n.toNat % 256 by omega] at e2
  refine ⟨rfl, .inr ⟨w.heap.size, 2, _, rfl, Nat.zero_le _, heap_alloc_new w _, Nat.le_refl _, by unfold maxLen; omega, rfl, ?_⟩⟩
  simp [be2, e1, e2]

/-- Behind an append of bytes that were made anew to a slice that was made anew. -/
theorem Made.append {v1 v' : Value} {l1 l2 : List UInt8} {n : Nat} {w w1 w2 w3 : World} (h1 : Made v1 l1 w w1) (h2 : Fr (fun _ => False) w1 w2) (hn : n = l1.length + l2.length)
    (ho : w3.ownsRow 0 5 1 v' n (l1.map bv ++ l2.map bv)) (hg : w2.grownBy w3 v1.ownBlock) (hv : v'.ownBlock = v1.ownBlock ∨ v'.ownBlock = some w2.heap.size) : Made v' (l1 ++ l2) w w3 := by
  obtain ⟨o1, f1, k1⟩ := h1
  refine ⟨?_, (f1.trans h2 (fun _ _ h => h)).trans (Fr.of_grown hg) (fun i hi e => by have := k1 i e.symm; omega), ?_⟩
  · unfold Own
    rw [List.length_append, List.map_append, ← hn]
    exact ho
  · intro k hk
    rcases hv with e | e
    · exact k1 k (e ▸ hk)
    · rw [e] at hk; simp at hk; have := f1.size; have := h2.size; omega
end
section
theorem cell_of_pk {w : World} {b : Nat} {v u : Value} {t : TypeId} (h : w.heap[b]? = some (.cells #[v, u] t (0, 0))) : w.cell? ⟨b, 0, none⟩ = some v := by simp [World.cell?, h]
theorem free_of_pk {w : World} {b : Nat} {v u : Value} {t : TypeId} (h : w.heap[b]? = some (.cells #[v, u] t (0, 0))) : w.frozen? ⟨b, 0, none⟩ = false := by simp [World.frozen?, h]
theorem pk_setCell {w : World} {b : Nat} {v u x : Value} {t : TypeId} (h : w.heap[b]? = some (.cells #[v, x] t (0, 0))) : (w.setCell ⟨b, 0, none⟩ u).heap[b]? = some (.cells #[u, x] t (0, 0)) := by
  unfold World.setCell
  simp only [Array.getElem?_modify, if_true, h, Option.map_some]
  simp

/-- Block b is a Writer whose bytes are l, in the slice v that it owns alone. -/
structure PWr (q : Int) (w : World) (b : Nat) (v : Value) (l : List UInt8) : Prop where
  here : w.heap[b]? = some (.cells #[v, .int .i64 q] 57 (0, 0))
  own : Own w v l
  apart : v.ownBlock ≠ some b

/-- What a call of the Writer leaves. -/
def PWrote (q : Int) (b : Nat) (v : Value) (l : List UInt8) (w : World) (w' : World) : Prop :=
  ∃ v', PWr q w' b v' l ∧ Fr (fun k => k = b ∨ v.ownBlock = some k) w w' ∧ (v'.ownBlock = v.ownBlock ∨ ∀ k, v'.ownBlock = some k → w.heap.size ≤ k)

theorem pwrote_of {q : Int} {b : Nat} {v : Value} {l m : List UInt8} {w w1 : World} {o : Obj} {a : Option Addr} {c k : Nat} (h : PWr q w b v l) (hk : w1.heap[b]? = some (.cells #[v, .int .i64 q] 57 (0, 0)))
    (hown : w1.ownsRow 0 5 1 (.slice a (l.length + k) c) (l.length + k) (l.map bv ++ m.map bv)) (hg : (w.alloc o).grownBy w1 v.ownBlock)
    (hv : (Value.slice a (l.length + k) c).ownBlock = v.ownBlock ∨ (Value.slice a (l.length + k) c).ownBlock = some (w.heap.size + 1)) :
    PWrote q b v (l ++ m) w (w1.setCell ⟨b, 0, none⟩ (.slice a (l.length + k) c)) := by
  have hb := lt_of_block h.here
  have hm : k = m.length := by have := hown.1; simp at this; omega
  have hfr : Fr (fun k => k = b ∨ v.ownBlock = some k) w w1 := ((Fr.refl _ _).alloc o).trans (Fr.of_grown hg) (fun i _ e => .inr e.symm)
  have hne : (Value.slice a (l.length + k) c).ownBlock ≠ some b := by
    rcases hv with e | e
    · rw [e]; exact h.apart
    · rw [e]; intro e; simp at e; omega
  refine ⟨_, ⟨pk_setCell hk, ?_, hne⟩, hfr.setCell (fun _ => .inl rfl) _, ?_⟩
  · have := ownsRow_setCell_other hown (a := ⟨b, 0, none⟩) hne (.slice a (l.length + k) c)
    unfold Own
    rw [List.length_append, List.map_append, ← hm]
    exact this
  · rcases hv with e | e
    · exact .inl e
    · right; intro k hk; rw [e] at hk; simp at hk; omega

theorem pwrote_of' {q : Int} {b : Nat} {v : Value} {l m : List UInt8} {w w1 : World} {a : Option Addr} {c k : Nat} (h : PWr q w b v l) (hk : w1.heap[b]? = some (.cells #[v, .int .i64 q] 57 (0, 0)))
    (hown : w1.ownsRow 0 5 1 (.slice a (l.length + k) c) (l.length + k) (l.map bv ++ m.map bv)) (hg : w.grownBy w1 v.ownBlock)
    (hv : (Value.slice a (l.length + k) c).ownBlock = v.ownBlock ∨ (Value.slice a (l.length + k) c).ownBlock = some w.heap.size) :
    PWr q (w1.setCell ⟨b, 0, none⟩ (.slice a (l.length + k) c)) b (.slice a (l.length + k) c) (l ++ m) ∧ Fr (fun k => k = b ∨ v.ownBlock = some k) w (w1.setCell ⟨b, 0, none⟩ (.slice a (l.length + k) c)) ∧
      ((Value.slice a (l.length + k) c).ownBlock = v.ownBlock ∨ ∀ j, (Value.slice a (l.length + k) c).ownBlock = some j → w.heap.size ≤ j) := by
  have hb := lt_of_block h.here
  have hm : k = m.length := by have := hown.1; simp at this; omega
  have hfr : Fr (fun k => k = b ∨ v.ownBlock = some k) w w1 := (Fr.refl _ _).trans (Fr.of_grown hg) (fun i _ e => .inr e.symm)
  have hne : (Value.slice a (l.length + k) c).ownBlock ≠ some b := by
    rcases hv with e | e
    · rw [e]; exact h.apart
    · rw [e]; intro e; simp at e; omega
  refine ⟨⟨pk_setCell hk, ?_, hne⟩, hfr.setCell (fun _ => .inl rfl) _, ?_⟩
  · have := ownsRow_setCell_other hown (a := ⟨b, 0, none⟩) hne (.slice a (l.length + k) c)
    unfold Own
    rw [List.length_append, List.map_append, ← hm]
    exact this
  · rcases hv with e | e
    · exact .inl e
    · right; intro k hk; rw [e] at hk; simp at hk; omega

/-- The list of bytes in two parts: what is owned, said of each part. -/
theorem own_split {w : World} {v : Value} {l : List UInt8} {s : ByteArray} (h : Own w v (l ++ s.data.toList)) : w.ownsRow 0 5 1 v (l.length + s.size) (l.map bv ++ s.data.toList.map bv) := by
  unfold Own at h
  rw [List.length_append, List.map_append] at h
  exact h

theorem pword_any (q : Int) (b : Nat) (v : Value) (l : List UInt8) (n : Int) (h0 : 0 ≤ n) (h1 : n ≤ 65535) (w : World) (h : PWr q w b v l) (hl : l.length ≤ 1000000000) :
    Calls Try.prog 56 #[.pointer (some ⟨b, 0, none⟩), .int .u16 n] w fun e w' => e = .returned (.tuple #[]) ∧ PWrote q b v (l ++ be2 n.toNat) w w' := by
  obtain ⟨i0, hi, hz0, hz1, hz2⟩ := info_parts Try.infoU8
  have hc := cell_of_pk h.here
  have hf := free_of_pk h.here
  go_enter Try.func56, Try.ntmps56
  go_wp2_with (at_builtin; refine wpList_append_sep rfl (.tmp 10) (.tmp 16) 26 26 rfl 0 5 i0 (.int .u8 0) 1 1 Try.underlying26 _ Try.underlying26 (.inr ⟨_, rfl⟩) hi hz0 hz1 hz2 rfl (by decide) v l.length (l.map bv) rfl ?own _ 2 ((be2 n.toNat).map bv) rfl (lenOf_slice _ _ _) rfl ?c1 ?c2 (bv_one _) ?b1 ?b2 (Nat.zero_le _) ?grow)
  case own => exact World.ownsRow.alloc h.own _
  case c1 => exact be2_new h0 h1 w
  case c2 => exact be2_new h0 h1 w.drew
  case b1 => unfold maxLen; omega
  case b2 => omega
  case grow =>
    intro v' w1 hown hg hv
    obtain ⟨a, c, rfl⟩ := slice_of_own hown
    have hb := lt_of_block h.here
    have hk : w1.heap[b]? = some (.cells #[v, .int .i64 q] 57 (0, 0)) := by
      rw [hg.block b (by show b < (w.heap.push _).size; simp; omega) (fun e => h.apart e.symm), Below.heap_alloc _ _ _ hb]; exact h.here
    have hc1 := cell_of_pk hk
    have hf1 := free_of_pk hk
    clear hc hf
    have Hk := Lib.hid hk; clear hk
    have Hv := Lib.hid hv; clear hv
    have Hg := Lib.hid hg; clear hg
    have Ho := Lib.hid hown; clear hown
    go_wp2
    go_end0
    exact ⟨rfl, pwrote_of h Hk.out Ho.out Hg.out Hv.out⟩
theorem PWrote.size {q : Int} {b : Nat} {v : Value} {l : List UInt8} {w w' : World} (h : PWrote q b v l w w') : w.heap.size ≤ w'.heap.size := by
  obtain ⟨_, _, hf, _⟩ := h; exact hf.size

theorem PWrote.trans {q : Int} {b : Nat} {v v1 : Value} {l2 : List UInt8} {w w1 w2 : World} (hf : Fr (fun k => k = b ∨ v.ownBlock = some k) w w1) (hv : v1.ownBlock = v.ownBlock ∨ ∀ k, v1.ownBlock = some k → w.heap.size ≤ k)
    (h2 : PWrote q b v1 l2 w1 w2) : PWrote q b v l2 w w2 := by
  obtain ⟨v2, hw2, hf2, hv2⟩ := h2
  refine ⟨v2, hw2, hf.trans hf2 ?_, ?_⟩
  · rintro i hi (rfl | e)
    · exact .inl rfl
    · rcases hv with e1 | e1
      · exact .inr (e1 ▸ e)
      · have := e1 i e; omega
  · rcases hv2 with e2 | e2
    · rcases hv with e1 | e1
      · exact .inl (e2.trans e1)
      · right; intro k hk; exact e1 k (e2 ▸ hk)
    · right; intro k hk; have := e2 k hk; have := hf.size; omega

theorem plong_any (q : Int) (b : Nat) (v : Value) (l : List UInt8) (n : Int) (h0 : 0 ≤ n) (h1 : n ≤ 4294967295) (w : World) (h : PWr q w b v l) (hl : l.length ≤ 999999998) :
    Calls Try.prog 29 #[.pointer (some ⟨b, 0, none⟩), .int .u32 n] w fun e w' => e = .returned (.tuple #[]) ∧ PWrote q b v (l ++ be4 n.toNat) w w' := by
  have hwr : IntKind.u16.wrap n = n % 65536 := IntKind.wrap_u16 n
  go_enter Try.func29, Try.ntmps29
  go_wp2_with fail
  refine (pword_any q b v l _ (by omega) (by omega) _ h (by omega)).mono ?_
  rintro e w1 ⟨rfl, v1, hw1, hf1, hv1⟩
  have Hv := Lib.hid hv1; clear hv1
  go_wp2_with fail
  refine (pword_any q b v1 _ _ (by omega) (by omega) _ hw1 (by rw [List.length_append, be2_length]; omega)).mono ?_
  rintro e w2 ⟨rfl, h2⟩
  go_wp2_with fail
  go_end0
  refine ⟨rfl, PWrote.trans hf1 Hv.out ?_⟩
  have e1 : (n / 65536).toNat = n.toNat / 65536 := by omega
  have e2 : (n % 65536).toNat = n.toNat % 65536 := by omega
  rw [e1, e2, List.append_assoc] at h2
  exact h2

theorem pquad_any (q : Int) (b : Nat) (v : Value) (l : List UInt8) (n : Int) (h0 : 0 ≤ n) (h1 : n ≤ 18446744073709551615) (w : World) (h : PWr q w b v l) (hl : l.length ≤ 999999990) :
    Calls Try.prog 30 #[.pointer (some ⟨b, 0, none⟩), .int .u64 n] w fun e w' => e = .returned (.tuple #[]) ∧ PWrote q b v (l ++ be8 n.toNat) w w' := by
  have hwr : IntKind.u32.wrap n = n % 4294967296 := IntKind.wrap_u32 n
  go_enter Try.func30, Try.ntmps30
  go_wp2_with fail
  refine (plong_any q b v l _ (by omega) (by omega) _ h (by omega)).mono ?_
  rintro e w1 ⟨rfl, v1, hw1, hf1, hv1⟩
  have Hv := Lib.hid hv1; clear hv1
  go_wp2_with fail
  refine (plong_any q b v1 _ _ (by omega) (by omega) _ hw1 (by rw [List.length_append, be4_length]; omega)).mono ?_
  rintro e w2 ⟨rfl, h2⟩
  go_wp2_with fail
  go_end0
  refine ⟨rfl, PWrote.trans hf1 Hv.out ?_⟩
  have e1 : (n / 4294967296).toNat = n.toNat / 4294967296 := by omega
  have e2 : (n % 4294967296).toNat = n.toNat % 4294967296 := by omega
  rw [e1, e2, List.append_assoc] at h2
  exact h2

theorem plen_any (q : Int) (b : Nat) (v : Value) (l : List UInt8) (w : World) (h : PWr q w b v l) :
    Calls Try.prog 61 #[.pointer (some ⟨b, 0, none⟩)] w fun e w' => e = .returned (.int .i64 l.length) ∧ w' = w := by
  obtain ⟨a, c, rfl⟩ := slice_of_own h.own
  have hc := cell_of_pk h.here
  go_enter Try.func61, Try.ntmps61
  go_wp2
  go_ret
  exact ⟨rfl, rfl⟩

/-- The bytes of a text as a Writer lays them. -/
def txt (s : List UInt8) : List UInt8 := be2 s.length ++ s ++ (if s.length % 2 = 1 then [0] else [])

theorem bv_length (s : ByteArray) : (s.data.toList.map bv).length = s.size * 1 := by
  rw [List.length_map, Nat.mul_one]; rfl

theorem txt_even (l : List UInt8) (s : ByteArray) (h : ¬ s.size % 2 = 1) : l ++ txt s.data.toList = l ++ be2 (s.size : Int).toNat ++ s.data.toList := by
  unfold txt
  have e : s.data.toList.length = s.size := rfl
  rw [e, if_neg h, List.append_nil, Int.toNat_natCast]
  simp only [List.append_assoc]
theorem txt_odd (l : List UInt8) (s : ByteArray) (h : s.size % 2 = 1) : l ++ txt s.data.toList = l ++ be2 (s.size : Int).toNat ++ s.data.toList ++ [0] := by
  unfold txt
  have e : s.data.toList.length = s.size := rfl
  rw [e, if_pos h, Int.toNat_natCast]
  simp only [List.append_assoc]

theorem pwrote_of_split {q : Int} {b : Nat} {v : Value} {l : List UInt8} {s : ByteArray} {w w1 : World} {o : Obj} {a : Option Addr} {c k : Nat} (h : PWr q w b v (l ++ s.data.toList)) (hk : w1.heap[b]? = some (.cells #[v, .int .i64 q] 57 (0, 0)))
    (hown : w1.ownsRow 0 5 1 (.slice a (l.length + s.size + k) c) (l.length + s.size + k) (l.map bv ++ (s.data.toList.map bv ++ [bv 0]))) (hg : (w.alloc o).grownBy w1 v.ownBlock)
    (hv : (Value.slice a (l.length + s.size + k) c).ownBlock = v.ownBlock ∨ (Value.slice a (l.length + s.size + k) c).ownBlock = some (w.heap.size + 1)) :
    PWrote q b v (l ++ s.data.toList ++ [0]) w (w1.setCell ⟨b, 0, none⟩ (.slice a (l.length + s.size + k) c)) := by
  have e : (l ++ s.data.toList).length = l.length + s.size := by rw [List.length_append]; rfl
  rw [← e] at hown hv ⊢
  have hown' : w1.ownsRow 0 5 1 (.slice a ((l ++ s.data.toList).length + k) c) ((l ++ s.data.toList).length + k) ((l ++ s.data.toList).map bv ++ [(0 : UInt8)].map bv) := by
    rw [List.map_append, List.append_assoc]; exact hown
  exact pwrote_of h hk hown' hg hv

theorem ptext_any (q : Int) (b : Nat) (v : Value) (l : List UInt8) (s : ByteArray) (hs : s.size ≤ 65535) (w : World) (h : PWr q w b v l) (hl : l.length ≤ 900000000) :
    Calls Try.prog 59 #[.pointer (some ⟨b, 0, none⟩), .string s] w fun e w' => e = .returned (.tuple #[]) ∧ PWrote q b v (l ++ txt s.data.toList) w w' := by
  obtain ⟨i0, hi, hz0, hz1, hz2⟩ := info_parts Try.infoU8
  have hcond : decide ((65535 : Int) < (s.size : Int)) = false := by simp; omega
  have hwr : IntKind.u16.wrap (s.size : Int) = (s.size : Int) := by rw [IntKind.wrap_u16]; omega
  go_enter Try.func59, Try.ntmps59
  go_wp2_with fail
  refine (pword_any q b v l _ (by omega) (by omega) _ h (by omega)).mono ?_
  rintro e w1 ⟨rfl, v1, hw1, hf1, hv1⟩
  have Hv := Lib.hid hv1; clear hv1
  obtain ⟨l1, hl1⟩ : ∃ l1, l1 = l ++ be2 (s.size : Int).toNat := ⟨_, rfl⟩
  have hlen1 : l1.length ≤ 900000002 := by rw [hl1, List.length_append, be2_length]; omega
  rw [← hl1] at hw1
  have Hl1 := Lib.hid hl1; clear hl1
  have hc := cell_of_pk hw1.here
  have hf := free_of_pk hw1.here
  go_wp2_with (at_builtin; refine wpList_append_sep rfl (.tmp 20) (.tmp 21) 26 9 rfl 0 5 i0 (.int .u8 0) 1 1 Try.underlying26 _ Try.underlying9 (.inl rfl) hi hz0 hz1 hz2 rfl (by decide) v1 _ _ rfl hw1.own _ s.size (s.data.toList.map bv) rfl (lenOf_string _) (bv_length s) (string_first _ _) (string_first _ _) (bv_one _) ?b1 ?b2 (Nat.zero_le _) ?grow)
  case b1 => unfold maxLen; omega
  case b2 => omega
  case grow =>
    intro v' w2 hown hg hv
    obtain ⟨a, c, rfl⟩ := slice_of_own hown
    have hb := lt_of_block hw1.here
    have hk : w2.heap[b]? = some (.cells #[v1, .int .i64 q] 57 (0, 0)) := by
      rw [hg.block b hb (fun e => hw1.apart e.symm)]; exact hw1.here
    have hc2 := cell_of_pk hk
    have hf2 := free_of_pk hk
    clear hc hf
    have h2 := Lib.hid (pwrote_of' hw1 hk hown hg hv)
    have Hg := Lib.hid hg
    have Ho := Lib.hid hown
    have Hk := Lib.hid hk
    have Hvv := Lib.hid hv
    clear hk hown hg hv
    by_cases hodd : s.size % 2 = 1
    · have h21 : ((s.size : Int) % 2 == 1) = true := by simp; omega
      go_wp2_with (at_builtin; refine wpList_append_sep rfl (.tmp 33) (.tmp 34) 26 26 rfl 0 5 i0 (.int .u8 0) 1 1 Try.underlying26 _ Try.underlying26 (.inr ⟨_, rfl⟩) hi hz0 hz1 hz2 rfl (by decide) _ (l1.length + s.size) (l1.map bv ++ s.data.toList.map bv) rfl ?own _ 1 ([0].map bv) rfl (lenOf_slice _ _ _) rfl ?c1 ?c2 (bv_one _) ?b1 ?b2 (Nat.zero_le _) ?grow)
      case own => exact World.ownsRow.alloc (own_split h2.out.1.own) _
      case c1 =>
        have z := zero_new (P := Try.prog) (w2.setCell ⟨b, 0, none⟩ (.slice a (l1.length + s.size) c))
        rw [World.size_setCell] at z
        exact z
      case c2 =>
        have z := zero_new (P := Try.prog) (w2.setCell ⟨b, 0, none⟩ (.slice a (l1.length + s.size) c)).drew
        rw [show (w2.setCell ⟨b, 0, none⟩ (.slice a (l1.length + s.size) c)).drew.heap.size = w2.heap.size from World.size_setCell _ _ _] at z
        exact z
      case b1 => unfold maxLen; omega
      case b2 => omega
      case grow =>
        intro v' w4 hown hg hv
        obtain ⟨a4, c4, rfl⟩ := slice_of_own hown
        have hb4 := lt_of_block h2.out.1.here
        have hk4 : w4.heap[b]? = some (.cells #[.slice a (l1.length + s.size) c, .int .i64 q] 57 (0, 0)) := by
          rw [hg.block b (by show b < (Array.push _ _).size; rw [Array.size_push]; omega) (fun e => h2.out.1.apart e.symm), Below.heap_alloc _ _ _ hb4]; exact h2.out.1.here
        have hc4 := cell_of_pk hk4
        have hf4 := free_of_pk hk4
        clear hc2 hf2
        have Ho4 := Lib.hid hown
        have Hg4 := Lib.hid hg
        have Hk4 := Lib.hid hk4
        have Hv4 := Lib.hid hv
        clear hown hg hk4 hv
        go_wp2
        go_end0
        refine ⟨rfl, PWrote.trans hf1 Hv.out (PWrote.trans h2.out.2.1 h2.out.2.2 ?_)⟩
        rw [show l ++ txt s.data.toList = l1 ++ s.data.toList ++ [0] by rw [Hl1.out]; exact txt_odd l s hodd]
        exact pwrote_of_split h2.out.1 Hk4.out Ho4.out Hg4.out (by rw [World.size_setCell]; exact Hv4.out)
    · have h21 : ((s.size : Int) % 2 == 1) = false := by simp; omega
      go_wp2
      go_end0
      refine ⟨rfl, PWrote.trans hf1 Hv.out ?_⟩
      rw [show l ++ txt s.data.toList = l1 ++ s.data.toList by rw [Hl1.out]; exact txt_even l s hodd]
      exact ⟨_, h2.out⟩

theorem pclone_any (v : Value) (l : List UInt8) (w : World) (h : Sees w v l) (hl : l.length ≤ 2000000000) :
    Calls Try.prog 35 #[v] w fun e w' => ∃ v', e = .returned v' ∧ Own w' v' l ∧ Fr (fun _ => False) w w' ∧ (∀ k, v'.ownBlock = some k → w.heap.size ≤ k) := by
  obtain ⟨i0, hi, hz0, hz1, hz2⟩ := info_parts Try.infoU8
  obtain ⟨a, c, rfl, hn⟩ := h.shape
  have q1 : ∀ (w : World) (a : Option Addr) (n c : Nat), (binOp .eql 26 (.slice a n c) (.slice none 0 0)).run Try.prog w = .ok (.bool a.isNone) w := fun w a n c => Lib.run_eql_slice_nil w _ _ a n c 0 0 Try.underlying26
  cases a with
  | none =>
    have hl := hn rfl
    subst hl
    go_enter Try.func35, Try.ntmps35
    go_wp2
    go_ret
    exact ⟨_, rfl, World.ownsRow_nil _ _ _ _, Fr.refl _ _, fun k hk => by cases hk⟩
  | some a =>
    have Hn := Lib.hid hn; clear hn
    go_enter Try.func35, Try.ntmps35
    go_wp2_with (at_builtin; refine wpList_append_sep rfl (.tmp 5) (.tmp 6) 26 26 rfl 0 5 i0 (.int .u8 0) 1 1 Try.underlying26 _ Try.underlying26 (.inr ⟨_, rfl⟩) hi hz0 hz1 hz2 rfl (by decide) (.slice (some ⟨w.heap.size, 0, none⟩) 0 0) 0 [] rfl ?own _ l.length (l.map bv) rfl (lenOf_slice _ _ _) (by simp) ?c1 ?c2 (bv_one _) ?b1 ?b2 (Nat.zero_le _) ?grow)
    case own => exact World.ownsRow_made w #[] 0 (Nat.zero_le _) (by unfold maxLen; omega) rfl
    case c1 => exact (h.fr ((Fr.refl (fun _ => False) w).alloc _) (fun _ _ h => h)).first
    case c2 => exact (h.fr ((Fr.refl (fun _ => False) w).alloc _) (fun _ _ h => h)).drew.first
    case b1 => unfold maxLen; omega
    case b2 => omega
    case grow =>
      intro v' w1 hown hg hv
      have Ho := Lib.hid hown
      have Hg := Lib.hid hg
      have Hv := Lib.hid hv
      clear hown hg hv
      go_wp2
      go_ret
      refine ⟨v', rfl, Ho.out, ?_, ?_⟩
      · exact ((Fr.refl _ _).alloc (.cells #[] 5)).trans (Fr.of_grown Hg.out) (fun i hi e => by simp [Value.ownBlock] at e; omega)
      · intro k hk
        rcases Hv.out with e | e
        · rw [e] at hk; simp [Value.ownBlock] at hk; omega
        · rw [e] at hk; simp at hk; omega

theorem pbytes_any (q : Int) (b : Nat) (v : Value) (l : List UInt8) (w : World) (h : PWr q w b v l) (hl : l.length ≤ 2000000000) :
    Calls Try.prog 17 #[.pointer (some ⟨b, 0, none⟩)] w fun e w' => ∃ v', e = .returned v' ∧ Own w' v' l ∧ Fr (fun _ => False) w w' ∧ (∀ k, v'.ownBlock = some k → w.heap.size ≤ k) := by
  obtain ⟨a, c, rfl⟩ := slice_of_own h.own
  have hc := cell_of_pk h.here
  go_enter Try.func17, Try.ntmps17
  go_wp2_with fail
  refine (pclone_any _ l _ h.own.sees hl).mono ?_
  rintro e w1 ⟨v', rfl, ho, hf, hv⟩
  have Hv := Lib.hid hv; clear hv
  go_wp2
  go_ret
  exact ⟨_, rfl, ho, hf, Hv.out⟩
end
section
/-- What Whole finds: an error (0: none), the type, and how many more types there may be. -/
structure WR where
  e : Nat
  t : KT
  left : Nat

structure WP where
  e : Nat
  ts : List KT
  left : Nat

def zeroT : KT := .mk 0 0 [] 0 (fun _ => .nil)

/-- The parts of a type, made whole one by one. -/
def wholeAll (f : Nat → Nat → WR) : Nat → Nat → WP
  | 0, l => ⟨0, [], l⟩
  | n + 1, l =>
    let r := wholeAll f n l
    if r.e = 0 then (let q := f n r.left; if q.e = 0 then ⟨0, r.ts ++ [q.t], q.left⟩ else ⟨q.e, [], q.left⟩) else r

def wholeE : Nat → List (Txt × KT) → KT → Nat → WR
  | 0, _, _, l => ⟨5, zeroT, l⟩
  | lv + 1, al, t, l => match t with
    | .nil => ⟨0, .nil, l⟩
    | .mk k m ns n of =>
      if k = 9 then
        if standsN al ns < 0 then ⟨10, zeroT, l⟩
        else wholeE lv (al.take (standsN al ns).toNat) (al.getD (standsN al ns).toNat ([], .nil)).2 l
      else if l = 0 then ⟨6, zeroT, l⟩
      else
        let r := wholeAll (fun i l => wholeE lv al (of i) l) n (l - 1)
        if r.e = 0 then ⟨0, .mk k m ns n (fun i => r.ts.getD i .nil), r.left⟩ else ⟨r.e, zeroT, r.left⟩

theorem wholeAll_stop (f : Nat → Nat → WR) (n k l : Nat) (hk : k < n) (h0 : (wholeAll f k l).e = 0) (h : (f k (wholeAll f k l).left).e ≠ 0) : wholeAll f n l = ⟨(f k (wholeAll f k l).left).e, [], (f k (wholeAll f k l).left).left⟩ := by
  induction n with
  | zero => omega
  | succ n ih =>
    by_cases e : k = n
    · subst e
      simp only [wholeAll, h0, if_true, if_neg h]
    · have := ih (by omega)
      simp only [wholeAll]
      rw [this]
      exact if_neg h

theorem wholeAll_step (f : Nat → Nat → WR) (k l : Nat) (h0 : (wholeAll f k l).e = 0) (h : (f k (wholeAll f k l).left).e = 0) : wholeAll f (k + 1) l = ⟨0, (wholeAll f k l).ts ++ [(f k (wholeAll f k l).left).t], (f k (wholeAll f k l).left).left⟩ := by
  simp only [wholeAll, h0, if_true, h]

theorem standsN_lt {al : List (Txt × KT)} {ns : List Txt} (h : ¬ standsN al ns < 0) : (standsN al ns).toNat < al.length ∧ ((standsN al ns).toNat : Int) = standsN al ns := by
  refine ⟨?_, by omega⟩
  unfold standsN firstAt at *
  split at h
  · split at h
    · rename_i s h1
      rw [if_pos h1]
      have := List.findIdx_lt_length_of_exists (p := fun x : Txt × KT => decide (x.1 = s)) (xs := al) (by
        obtain ⟨x, hx, hp⟩ := List.any_eq_true.1 h1
        exact ⟨x, hx, hp⟩)
      simpa using this
    · omega
  · omega
end
section
structure KProc where
  name : Txt
  number : Int
  takes : KT
  answers : KT
  collate : Nat
  timeout : Int

structure KTab where
  name : Txt
  number : Int
  version : Int
  types : List (Txt × KT)
  faults : List (Txt × Int)
  procs : List KProc

/-- The slice v shows these faults. -/
def Faults (R : Nat → Prop) (w : World) (l : List (Txt × Int)) (v : Value) : Prop :=
  l.length ≤ 1000 ∧ (∀ x ∈ l, x.1.length ≤ 1000) ∧
  ((l = [] ∧ ∃ a c, v = .slice a 0 c) ∨
   ∃ g off cap, R g ∧ v = .slice (some ⟨g, off, none⟩) l.length cap ∧ l.length ≤ cap ∧ ∀ i x, l[i]? = some x →
    w.cell? ⟨g, off + i * 2, none⟩ = some (sv x.1) ∧ w.cell? ⟨g, off + i * 2 + 1, none⟩ = some (.int .i64 x.2))

/-- The cells of a procedure, its types' cells being x0 to x3 and y0 to y3. -/
def procCells (p : KProc) (x0 x1 x2 x3 y0 y1 y2 y3 : Value) : List Value := [sv p.name, .int .i64 p.number, x0, x1, x2, x3, y0, y1, y2, y3, .int .u8 p.collate, .int .i64 p.timeout]

/-- The slice v shows these procedures. -/
def Procs (R : Nat → Prop) (w : World) (l : List KProc) (v : Value) : Prop :=
  l.length ≤ 1000 ∧ (∀ p ∈ l, p.name.length ≤ 1000 ∧ p.collate ≤ 255) ∧
  ((l = [] ∧ ∃ a c, v = .slice a 0 c) ∨
   ∃ g off cap, R g ∧ v = .slice (some ⟨g, off, none⟩) l.length cap ∧ l.length ≤ cap ∧ ∀ i p, l[i]? = some p → ∃ x0 x1 x2 x3 y0 y1 y2 y3,
    (∀ j u, (procCells p x0 x1 x2 x3 y0 y1 y2 y3)[j]? = some u → w.cell? ⟨g, off + i * 12 + j, none⟩ = some u) ∧
    Shows R w p.takes (.agg #[x0, x1, x2, x3]) ∧ Shows R w p.answers (.agg #[y0, y1, y2, y3]))

/-- The value v shows the interface t. -/
def Tabled (R : Nat → Prop) (w : World) (t : KTab) (v : Value) : Prop :=
  ∃ tv fv pv, v = .agg #[sv t.name, .int .i64 t.number, .int .i64 t.version, tv, fv, pv] ∧ t.name.length ≤ 1000 ∧ Aliases R w t.types tv ∧ Faults R w t.faults fv ∧ Procs R w t.procs pv

theorem Faults.fr {R S : Nat → Prop} {w w' : World} {l : List (Txt × Int)} {v : Value} (h : Faults R w l v) (hf : Fr S w w') (hS : ∀ k, R k → ¬ S k) : Faults R w' l v := by
  obtain ⟨h1, h2, h3 | ⟨g, off, cap, hg, rfl, hle, hc⟩⟩ := h
  · exact ⟨h1, h2, .inl h3⟩
  · exact ⟨h1, h2, .inr ⟨g, off, cap, hg, rfl, hle, fun i x hi => ⟨cell_fr hf hS hg (hc i x hi).1, cell_fr hf hS hg (hc i x hi).2⟩⟩⟩

theorem Faults.mono {R S : Nat → Prop} {w : World} {l : List (Txt × Int)} {v : Value} (h : Faults R w l v) (hS : ∀ k, k < w.heap.size → R k → S k) : Faults S w l v := by
  obtain ⟨h1, h2, h3 | ⟨g, off, cap, hg, rfl, hle, hc⟩⟩ := h
  · exact ⟨h1, h2, .inl h3⟩
  · cases l with
    | nil => exact ⟨h1, h2, .inl ⟨rfl, _, _, rfl⟩⟩
    | cons x l => exact ⟨h1, h2, .inr ⟨g, off, cap, hS g (World.block_lt_of_cell? w _ (hc 0 x rfl).1) hg, rfl, hle, hc⟩⟩

theorem Procs.fr {R S : Nat → Prop} {w w' : World} {l : List KProc} {v : Value} (h : Procs R w l v) (hf : Fr S w w') (hS : ∀ k, R k → ¬ S k) : Procs R w' l v := by
  obtain ⟨h1, h2, h3 | ⟨g, off, cap, hg, rfl, hle, hc⟩⟩ := h
  · exact ⟨h1, h2, .inl h3⟩
  · refine ⟨h1, h2, .inr ⟨g, off, cap, hg, rfl, hle, fun i p hi => ?_⟩⟩
    obtain ⟨x0, x1, x2, x3, y0, y1, y2, y3, c, hx, hy⟩ := hc i p hi
    exact ⟨x0, x1, x2, x3, y0, y1, y2, y3, fun j u hj => cell_fr hf hS hg (c j u hj), Shows.fr hf hS _ _ hx, Shows.fr hf hS _ _ hy⟩

theorem Procs.mono {R S : Nat → Prop} {w : World} {l : List KProc} {v : Value} (h : Procs R w l v) (hS : ∀ k, k < w.heap.size → R k → S k) : Procs S w l v := by
  obtain ⟨h1, h2, h3 | ⟨g, off, cap, hg, rfl, hle, hc⟩⟩ := h
  · exact ⟨h1, h2, .inl h3⟩
  · cases l with
    | nil => exact ⟨h1, h2, .inl ⟨rfl, _, _, rfl⟩⟩
    | cons q l =>
      refine ⟨h1, h2, .inr ⟨g, off, cap, ?_, rfl, hle, fun i p hi => ?_⟩⟩
      · obtain ⟨x0, x1, x2, x3, y0, y1, y2, y3, c, _⟩ := hc 0 q rfl
        exact hS g (World.block_lt_of_cell? w _ (c 0 _ rfl)) hg
      · obtain ⟨x0, x1, x2, x3, y0, y1, y2, y3, c, hx, hy⟩ := hc i p hi
        exact ⟨x0, x1, x2, x3, y0, y1, y2, y3, c, Shows.mono hS _ _ hx, Shows.mono hS _ _ hy⟩

theorem Tabled.fr {R S : Nat → Prop} {w w' : World} {t : KTab} {v : Value} (h : Tabled R w t v) (hf : Fr S w w') (hS : ∀ k, R k → ¬ S k) : Tabled R w' t v := by
  obtain ⟨tv, fv, pv, e, hn, h1, h2, h3⟩ := h
  exact ⟨tv, fv, pv, e, hn, h1.fr hf hS, h2.fr hf hS, h3.fr hf hS⟩

theorem Tabled.mono {R S : Nat → Prop} {w : World} {t : KTab} {v : Value} (h : Tabled R w t v) (hS : ∀ k, k < w.heap.size → R k → S k) : Tabled S w t v := by
  obtain ⟨tv, fv, pv, e, hn, h1, h2, h3⟩ := h
  exact ⟨tv, fv, pv, e, hn, h1.mono hS, h2.mono hS, h3.mono hS⟩

theorem Faults.shape {R : Nat → Prop} {w : World} {l : List (Txt × Int)} {v : Value} (h : Faults R w l v) : ∃ a c, v = .slice a l.length c ∧ (l.length = 0 ∨ l.length ≤ c ∧ ∃ g off, R g ∧ a = some ⟨g, off, none⟩ ∧ ∀ i x, l[i]? = some x →
    w.cell? ⟨g, off + i * 2, none⟩ = some (sv x.1) ∧ w.cell? ⟨g, off + i * 2 + 1, none⟩ = some (.int .i64 x.2)) := by
  obtain ⟨h1, h2, ⟨rfl, a, c, rfl⟩ | ⟨g, off, cap, hg, rfl, hle, hc⟩⟩ := h
  · exact ⟨a, c, rfl, .inl rfl⟩
  · exact ⟨_, cap, rfl, .inr ⟨hle, g, off, hg, rfl, hc⟩⟩

theorem Procs.shape {R : Nat → Prop} {w : World} {l : List KProc} {v : Value} (h : Procs R w l v) : ∃ a c, v = .slice a l.length c ∧ (l.length = 0 ∨ l.length ≤ c ∧ ∃ g off, R g ∧ a = some ⟨g, off, none⟩ ∧ ∀ i p, l[i]? = some p → ∃ x0 x1 x2 x3 y0 y1 y2 y3,
    (∀ j u, (procCells p x0 x1 x2 x3 y0 y1 y2 y3)[j]? = some u → w.cell? ⟨g, off + i * 12 + j, none⟩ = some u) ∧
    Shows R w p.takes (.agg #[x0, x1, x2, x3]) ∧ Shows R w p.answers (.agg #[y0, y1, y2, y3])) := by
  obtain ⟨h1, h2, ⟨rfl, a, c, rfl⟩ | ⟨g, off, cap, hg, rfl, hle, hc⟩⟩ := h
  · exact ⟨a, c, rfl, .inl rfl⟩
  · exact ⟨_, cap, rfl, .inr ⟨hle, g, off, hg, rfl, hc⟩⟩

theorem Faults.take {R : Nat → Prop} {w : World} {l : List (Txt × Int)} {a : Option Addr} {n c : Nat} (h : Faults R w l (.slice a n c)) (i : Nat) (hi : i ≤ l.length) : Faults R w (l.take i) (.slice a i c) := by
  obtain ⟨h1, h2, h3⟩ := h
  refine ⟨by rw [List.length_take]; omega, fun x hx => h2 x (List.mem_of_mem_take hx), ?_⟩
  rcases h3 with ⟨rfl, a', c', e⟩ | ⟨g, off, cap, hg, e, hle, hc⟩
  · cases e
    simp at hi
    subst hi
    exact .inl ⟨rfl, _, _, rfl⟩
  · cases e
    have e1 : (l.take i).length = i := by rw [List.length_take]; omega
    refine .inr ⟨g, off, _, hg, by rw [e1], by omega, fun j x hj => hc j x ?_⟩
    rw [List.getElem?_take] at hj
    split at hj
    · exact hj
    · cases hj

theorem Procs.take {R : Nat → Prop} {w : World} {l : List KProc} {a : Option Addr} {n c : Nat} (h : Procs R w l (.slice a n c)) (i : Nat) (hi : i ≤ l.length) : Procs R w (l.take i) (.slice a i c) := by
  obtain ⟨h1, h2, h3⟩ := h
  refine ⟨by rw [List.length_take]; omega, fun x hx => h2 x (List.mem_of_mem_take hx), ?_⟩
  rcases h3 with ⟨rfl, a', c', e⟩ | ⟨g, off, cap, hg, e, hle, hc⟩
  · cases e
    simp at hi
    subst hi
    exact .inl ⟨rfl, _, _, rfl⟩
  · cases e
    have e1 : (l.take i).length = i := by rw [List.length_take]; omega
    refine .inr ⟨g, off, _, hg, by rw [e1], by omega, fun j x hj => hc j x ?_⟩
    rw [List.getElem?_take] at hj
    split at hj
    · exact hj
    · cases hj

/-- May it number something? -/
def validN (n : Int) : Bool := decide (0 ≤ n ∧ n ≤ 65535)

def noProc : KProc := ⟨[], 0, .nil, .nil, 0, 0⟩

/-- The error of the alias at place i. -/
def aliasE (ts : List (Txt × KT)) (i : Nat) : Nat :=
  if nameE ((ts.take i).map (·.1)) (ts.getD i ([], .nil)).1 = 0 then rightE (ts.take i) (ts.getD i ([], .nil)).2 5 else nameE ((ts.take i).map (·.1)) (ts.getD i ([], .nil)).1

/-- The error of the fault at place i, behind the names bef. -/
def faultE (bef : List Txt) (fs : List (Txt × Int)) (i : Nat) : Nat :=
  if nameE (bef ++ (fs.take i).map (·.1)) (fs.getD i ([], 0)).1 = 0 then
    if !validN (fs.getD i ([], 0)).2 then 2 else if (fs.take i).any (fun g => decide (g.2 = (fs.getD i ([], 0)).2)) then 9 else 0
  else nameE (bef ++ (fs.take i).map (·.1)) (fs.getD i ([], 0)).1

/-- The error of a type that a procedure takes or answers. -/
def usedE (ts : List (Txt × KT)) (x : KT) : Nat := if rightE ts x 5 = 0 then (wholeE 20 ts x 200).e else rightE ts x 5

/-- The error of a procedure, but for its name. -/
def procE1 (ts : List (Txt × KT)) (ps : List KProc) (p : KProc) : Nat :=
  if !validN p.number || decide (p.timeout < 1) || decide (1000 < p.timeout) || decide (3 ≤ p.collate) then 2
  else if ps.any (fun q => decide (q.number = p.number)) then 9
  else if usedE ts p.takes = 0 then usedE ts p.answers else usedE ts p.takes

/-- The error of the procedure at place i, behind the names bef. -/
def procE (bef : List Txt) (ts : List (Txt × KT)) (ps : List KProc) (i : Nat) : Nat :=
  if nameE (bef ++ (ps.take i).map (·.name)) (ps.getD i noProc).name = 0 then procE1 ts (ps.take i) (ps.getD i noProc)
  else nameE (bef ++ (ps.take i).map (·.name)) (ps.getD i noProc).name

/-- THE CHECK OF AN INTERFACE. -/
def checkE (t : KTab) : Nat :=
  if !named t.name then 8
  else if !validN t.number || !validN t.version then 2
  else if 16 < t.types.length ∨ 16 < t.faults.length ∨ 16 < t.procs.length then 7
  else if firstE (aliasE t.types) t.types.length ≠ 0 then firstE (aliasE t.types) t.types.length
  else if firstE (faultE (t.types.map (·.1)) t.faults) t.faults.length ≠ 0 then firstE (faultE (t.types.map (·.1)) t.faults) t.faults.length
  else firstE (procE (t.types.map (·.1) ++ t.faults.map (·.1)) t.types t.procs) t.procs.length
end
section
theorem k10 {k : Nat} (h : k < 10) : k = 0 ∨ k = 1 ∨ k = 2 ∨ k = 3 ∨ k = 4 ∨ k = 5 ∨ k = 6 ∨ k = 7 ∨ k = 8 ∨ k = 9 := by omega

theorem sized_any (k : Nat) (m : Int) (hk : k < 10) (vn vo : Value) (w : World) :
    Calls Try.prog 87 #[.agg #[.int .u8 k, .int .i64 m, vn, vo]] w fun e w' => e = .returned (.bool (sizedB k m)) ∧ Fr (fun _ => False) w w' := by
  rcases k10 hk with rfl | rfl | rfl | rfl | rfl | rfl | rfl | rfl | rfl | rfl <;>
    (go_enter Try.func87, Try.ntmps87
     go_wp2
     all_goals go_ret
     all_goals refine ⟨ret_bool ?_, (Fr.refl _ _).alloc _⟩
     all_goals (rw [Bool.eq_iff_iff]; simp_all [sizedB]; try omega))

theorem formed_any (k nn n : Nat) (m : Int) (hk : k < 10) (a a' : Option Addr) (c c' : Nat) (w : World) :
    Calls Try.prog 88 #[.agg #[.int .u8 k, .int .i64 m, .slice a nn c, .slice a' n c']] w fun e w' => e = .returned (.bool (formedB k nn n)) ∧ Fr (fun _ => False) w w' := by
  rcases k10 hk with rfl | rfl | rfl | rfl | rfl | rfl | rfl | rfl | rfl | rfl <;>
    (go_enter Try.func88, Try.ntmps88
     go_wp2
     all_goals go_ret
     all_goals refine ⟨ret_bool ?_, (Fr.refl _ _).alloc _⟩
     all_goals (rw [Bool.eq_iff_iff]; simp_all [formedB]; try omega))

theorem namesE_step (bef : List Txt) (s : Txt) (r : List Txt) (h : nameE bef s = 0) : namesE bef (s :: r) = namesE (bef ++ [s]) r := by
  rw [namesE, if_pos h]

theorem namesE_stop (bef : List Txt) (s : Txt) (r : List Txt) (h : nameE bef s ≠ 0) : namesE bef (s :: r) = nameE bef s := by
  rw [namesE, if_neg h]

theorem ret_nat {a b : Nat} (h : a = b) : Ending.returned (.int .i64 (a : Int)) = .returned (.int .i64 (b : Int)) := by rw [h]

theorem nameE_small (l : List Txt) (s : Txt) : nameE l s = 0 ∨ nameE l s = 8 ∨ nameE l s = 9 := by
  unfold nameE; split
  · exact .inr (.inl rfl)
  · split
    · exact .inr (.inr rfl)
    · exact .inl rfl

theorem checkNames_any (R : Nat → Prop) (ns : List Txt) (v : Value) (w : World) (h : Texts R w ns v) :
    Calls Try.prog 89 #[v] w fun e w' => e = .returned (.int .i64 (checkNamesE ns)) ∧ Fr (fun _ => False) w w' := by
  have hl := Lib.hid h.1
  have hs := Lib.hid h.2.1
  obtain ⟨a, c, rfl, hc⟩ := h.shape
  have hl0 : ns.length ≤ 1000 := hl.out
  by_cases h1 : ns.length < 1
  · have h1' : (ns.length : Int) < 1 := by omega
    go_enter Try.func89, Try.ntmps89
    go_wp2
    go_ret
    exact ⟨ret_nat (a := 7) (by unfold checkNamesE; rw [if_pos (.inl h1)]), Fr.refl _ _⟩
  have h1' : ¬ (ns.length : Int) < 1 := by omega
  by_cases h2 : 12 < ns.length
  · have h2' : 12 < (ns.length : Int) := by omega
    go_enter Try.func89, Try.ntmps89
    go_wp2
    go_ret
    exact ⟨ret_nat (a := 7) (by unfold checkNamesE; rw [if_pos (.inr h2)]), Fr.refl _ _⟩
  have h2' : ¬ 12 < (ns.length : Int) := by omega
  have hce : checkNamesE ns = namesE [] ns := by unfold checkNamesE; rw [if_neg (by omega)]
  have HCE := Lib.hid hce
  clear hce
  rcases hc with hc | ⟨hcap, g, off, hg, rfl, hcell⟩
  · omega
  have Hcell := Lib.hid hcell
  have H := Lib.hid h
  clear hcell h
  go_enter Try.func89, Try.ntmps89
  go_wp2_with fail
  refine (naming_any _).mono ?_
  rintro e w1 ⟨rfl, f1, N1⟩
  unfold namer
  go_wp2
  go_loopg [5, 6, 18] ns.length (fun G u5 u6 u18 wr => ∃ k : Nat, k ≤ ns.length ∧ G = ns.length - k ∧ u18 = .int .i64 k ∧ Hid (Fr (fun _ => False) w wr ∧ Nm (fun k => k < w.heap.size) wr w.heap.size (ns.take k) ∧ namesE [] ns = namesE (ns.take k) (ns.drop k)))
  case atStart => exact ⟨0, Nat.zero_le _, rfl, by go_num, Lib.hid ⟨f1, N1, rfl⟩⟩
  case round =>
    obtain ⟨k, hk, rfl, rfl, HI⟩ := hrel
    by_cases hlt : k < ns.length
    · obtain ⟨d, hd⟩ : ∃ d, d = ns[k] := ⟨_, rfl⟩
      have hck0 := Hcell.out k d (by rw [List.getElem?_eq_getElem hlt, hd])
      have hck := cell_fr (R := fun k => k < w.heap.size) HI.out.1 (fun _ _ h => h) (World.block_lt_of_cell? w _ hck0) hck0
      unfold sv at hck
      clear hck0
      have hdl : d.length ≤ 1000 := hs.out d (by rw [hd]; exact List.getElem_mem hlt)
      have hdrop : ns.drop k = d :: ns.drop (k + 1) := by rw [hd]; exact List.drop_eq_getElem_cons hlt
      have htake : ns.take (k + 1) = ns.take k ++ [d] := by rw [hd]; exact List.take_succ_eq_append_getElem hlt
      have HT := Lib.hid htake
      have HD := Lib.hid hdrop
      clear hd hdrop htake
      have hnx := name_next (fun k => k < w.heap.size) w.heap.size (ns.take k) d wr HI.out.2.1 (fun k hk => Nat.lt_of_lt_of_le hk HI.out.1.size) (by rw [List.length_take]; omega) (by unfold maxLen; omega)
      unfold sv at hnx
      obtain ⟨E, hE⟩ : ∃ E, E = nameE (ns.take k) d := ⟨_, rfl⟩
      rw [← hE] at hnx
      have HE := Lib.hid hE
      clear hE
      by_cases he : E = 0
      · subst he
        go_wp2_with fail
        refine hnx.mono ?_
        rintro e w2 ⟨rfl, f2, N2⟩
        have N2 := Lib.hid (N2 (by first | trivial | rfl))
        have f2 := Lib.hid f2
        go_wp2
        go_roundg (ns.length - (k + 1))
        case measure => omega
        case rel => exact ⟨k + 1, by omega, rfl, by go_num, Lib.hid ⟨HI.out.1.trans f2.out (fun i hi hn => hn hi), by rw [HT.out]; exact N2.out, by rw [HI.out.2.2, HD.out, HT.out, namesE_step _ _ _ HE.out.symm]⟩⟩
      · have he' : ¬ (E : Int) = 0 := by omega
        go_wp2_with fail
        refine hnx.mono ?_
        rintro e w2 ⟨rfl, f2, _⟩
        have f2 := Lib.hid f2
        go_wp2
        go_ret
        refine ⟨ret_nat ?_, HI.out.1.trans f2.out (fun i hi hn => hn hi)⟩
        rw [HCE.out, HI.out.2.2, HD.out, namesE_stop _ _ _ (by rw [← HE.out]; exact he)]
        exact HE.out
    · obtain rfl : k = ns.length := by omega
      go_wp2
      go_ret
      refine ⟨ret_nat (a := 0) ?_, HI.out.1⟩
      rw [HCE.out, HI.out.2.2, List.drop_length]
      rfl
end
section
/-- The index of the alias for which a type stands, or -1. -/
def standsE (known : List (Txt × KT)) : KT → Int
  | .nil => -1
  | .mk _ _ ns _ _ => standsN known ns

theorem cell_of_four {w : World} {b : Nat} {x0 x1 x2 x3 : Value} {t : TypeId} (h : w.heap[b]? = some (.cells #[x0, x1, x2, x3] t (0, 0))) :
    w.cell? ⟨b, 0, none⟩ = some x0 ∧ w.cell? ⟨b, 1, none⟩ = some x1 ∧ w.cell? ⟨b, 2, none⟩ = some x2 ∧ w.cell? ⟨b, 3, none⟩ = some x3 := by
  simp [World.cell?, h]

theorem Fr.drewN {S : Nat → Prop} {a b : World} (h : Fr S a b) (n : Nat) : Fr S a (b.drewN n) := ⟨h.os, h.tape, h.output, h.size, h.block⟩

theorem stands_fn (b : Nat) (x0 x1 x3 y0 y1 y2 y3 : Value) (c g off : Nat) (s d : Txt) (w : World) (hb : w.heap[b]? = some (.cells #[x0, x1, .slice (some ⟨g, off, none⟩) 1 c, x3] 34 (0, 0))) (hc : w.cell? ⟨g, off, none⟩ = some (sv s)) :
    Calls Try.prog 95 #[.agg #[sv d, y0, y1, y2, y3], .pointer (some ⟨b, 0, none⟩)] w fun e w' => e = .returned (.bool (decide (d = s))) ∧ Fr (fun _ => False) w w' := by
  obtain ⟨_, _, c2, _⟩ := cell_of_four hb
  have hlt := lt_of_block hb
  have hlg := World.block_lt_of_cell? w _ hc
  have hlg' : g < w.heap.size := hlg
  have n1 : b ≠ w.heap.size := by omega
  have n2 : g ≠ w.heap.size := by omega
  clear hb
  unfold sv at *
  have hbs : (d == s) = decide (d = s) := by by_cases h : d = s <;> simp [h]
  go_enter Try.func95, Try.ntmps95
  go_wp2
  go_quiet (fail)
  go_wp2
  go_ret
  exact ⟨rfl, ((Fr.refl _ _).alloc _).drewN _⟩

theorem index_alias (R : Nat → Prop) (l : List (Txt × KT)) (v : Value) (b : Nat) (x0 x1 x3 : Value) (c g off : Nat) (s : Txt) (w : World) (h : Aliases R w l v) (hb : w.heap[b]? = some (.cells #[x0, x1, .slice (some ⟨g, off, none⟩) 1 c, x3] 34 (0, 0))) (hc : w.cell? ⟨g, off, none⟩ = some (sv s)) :
    Calls Try.prog 94 #[v, .func (.func 95) #[] #[.pointer (some ⟨b, 0, none⟩)]] w fun e w' => e = .returned (.int .i64 (firstAt (fun x => decide (x.1 = s)) l)) ∧ Fr (fun _ => False) w w' := by
  have hl0 : l.length ≤ 1000 := h.1
  obtain ⟨a, cap, rfl, hs⟩ := h.shape
  have Hs := Lib.hid hs
  have Hb := Lib.hid hb
  have Hc := Lib.hid hc
  clear hs h hb hc
  go_enter Try.func94, Try.ntmps94
  go_wp2
  go_loopg [5, 8] l.length (fun G u5 u8 wr => ∃ k : Nat, k ≤ l.length ∧ G = l.length - k ∧ u8 = .int .i64 k ∧ Hid ((∀ j, (hj : j < l.length) → j < k → l[j].1 ≠ s) ∧ Fr (fun _ => False) w wr))
  case atStart => exact ⟨0, Nat.zero_le _, rfl, by go_num, Lib.hid ⟨fun j _ hj => by omega, Fr.refl _ _⟩⟩
  case round =>
    obtain ⟨k, hk, rfl, rfl, HI⟩ := hrel
    by_cases hlt : k < l.length
    · rcases Hs.out with hz | ⟨hcap, ga, oa, hg, rfl, hcell⟩
      · omega
      obtain ⟨d, hd⟩ : ∃ d, d = l[k] := ⟨_, rfl⟩
      obtain ⟨y0, y1, y2, y3, q, q0, q1, q2, q3, _⟩ := hcell k d (by rw [List.getElem?_eq_getElem hlt, hd])
      have up : ∀ {o : Nat} {u : Value}, w.cell? ⟨ga, o, none⟩ = some u → wr.cell? ⟨ga, o, none⟩ = some u := fun {o u} hq => cell_fr (R := fun _ => True) HI.out.2 (fun _ _ h => h) trivial hq
      have q' := up q
      have q0' := up q0
      have q1' := up q1
      have q2' := up q2
      have q3' := up q3
      clear up q q0 q1 q2 q3 hcell
      have hbr : wr.heap[b]? = some (.cells #[x0, x1, .slice (some ⟨g, off, none⟩) 1 c, x3] 34 (0, 0)) := by
        rw [HI.out.2.block b (lt_of_block Hb.out) (fun h => h)]; exact Hb.out
      have hcr : wr.cell? ⟨g, off, none⟩ = some (sv s) := cell_fr (R := fun _ => True) HI.out.2 (fun _ _ h => h) trivial Hc.out
      have hfn := stands_fn b x0 x1 x3 y0 y1 y2 y3 c g off s d.1 wr hbr hcr
      have Hd := Lib.hid hd
      clear hd hbr hcr
      unfold sv at *
      by_cases he : d.1 = s
      · have hb1 : decide (d.1 = s) = true := by simpa using he
        rw [hb1] at hfn
        have He := Lib.hid he
        clear he hb1
        go_wp2_with fail
        refine hfn.mono ?_
        rintro e w1 ⟨rfl, f1⟩
        have f1 := Lib.hid f1
        go_wp2
        go_ret
        refine ⟨ret_int ?_, HI.out.2.trans f1.out (fun _ _ h => h)⟩
        exact (firstAt_found _ l k hlt (fun j hj hjk => by simpa using HI.out.1 j hj hjk) (by rw [← Hd.out]; simpa using He.out)).symm
      · have hb1 : decide (d.1 = s) = false := by simpa using he
        rw [hb1] at hfn
        have He := Lib.hid he
        clear he hb1
        go_wp2_with fail
        refine hfn.mono ?_
        rintro e w1 ⟨rfl, f1⟩
        have f1 := Lib.hid f1
        go_wp2
        go_roundg (l.length - (k + 1))
        case measure => omega
        case rel => exact ⟨k + 1, by omega, rfl, by go_num, Lib.hid ⟨fun j hj' hj => by
          by_cases h : j < k
          · exact HI.out.1 j hj' h
          · obtain rfl : j = k := by omega
            rw [← Hd.out]; exact He.out, HI.out.2.trans f1.out (fun _ _ h => h)⟩⟩
    · obtain rfl : k = l.length := by omega
      go_wp2
      go_ret
      refine ⟨ret_int ?_, HI.out.2⟩
      exact (firstAt_none _ l (fun j hj => by simpa using HI.out.1 j hj hj)).symm

theorem stands_any (R : Nat → Prop) (known : List (Txt × KT)) (t : KT) (v kv : Value) (w : World) (h : Shows R w t v) (hk : Aliases R w known kv) :
    Calls Try.prog 90 #[v, kv] w fun e w' => e = .returned (.int .i64 (standsE known t)) ∧ Fr (fun _ => False) w w' := by
  cases t with
  | nil => exact h.elim
  | mk k m ns n of =>
  obtain ⟨vn, vo, rfl, _, _, ht, _⟩ := h
  have hl0 : ns.length ≤ 1000 := ht.1
  obtain ⟨a, cap, rfl, hs⟩ := ht.shape
  have Hs := Lib.hid hs
  have Hk := Lib.hid hk
  clear hs hk ht
  by_cases h1 : ns.length = 1
  · obtain ⟨s, rfl⟩ : ∃ s, ns = [s] := List.length_eq_one_iff.1 h1
    rcases Hs.out with hz | ⟨hcap, g, off, hg, rfl, hcell⟩
    · simp at hz
    have hc := hcell 0 s rfl
    rw [Nat.add_zero] at hc
    clear hcell
    have Hc := Lib.hid hc
    clear hc
    have hlg : g < w.heap.size := World.block_lt_of_cell? w _ Hc.out
    have e1 : standsE known (.mk k m [s] n of) = firstAt (fun x => decide (x.1 = s)) known := rfl
    have E1 := Lib.hid e1
    clear e1
    go_enter Try.func90, Try.ntmps90
    go_wp2_with fail
    have f0 : Fr (fun _ => False) w (w.alloc (.cells #[.int .u8 k, .int .i64 m, .slice (some ⟨g, off, none⟩) 1 cap, vo] 34)) := (Fr.refl _ _).alloc _
    refine (index_alias R known kv w.heap.size _ _ _ cap g off s _ (Hk.out.fr f0 (fun _ _ h => h)) (heap_alloc_new w _) (cell_fr (R := fun _ => True) f0 (fun _ _ h => h) trivial Hc.out)).mono ?_
    rintro e w1 ⟨rfl, f1⟩
    have f1 := Lib.hid f1
    have f0 := Lib.hid f0
    go_wp2
    go_ret
    exact ⟨by rw [E1.out]; rfl, f0.out.trans f1.out (fun _ _ h => h)⟩
  · have e1 : standsE known (.mk k m ns n of) = -1 := by
      match ns, h1 with
      | [], _ => rfl
      | [s], h => exact absurd rfl h
      | _ :: _ :: _, _ => rfl
    have E1 := Lib.hid e1
    clear e1
    have h1' : ¬ (ns.length : Int) = 1 := by omega
    go_enter Try.func90, Try.ntmps90
    go_wp2
    go_ret
    exact ⟨by rw [E1.out]; rfl, (Fr.refl _ _).alloc _⟩
end
end Go.Proofs.Ytplipjijaaejlaa
