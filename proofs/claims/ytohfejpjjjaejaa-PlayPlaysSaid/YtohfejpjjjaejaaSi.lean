/-
  PlayPlays, part 9 of what it rests on: KindArg, PlayArg, ProgMake, PlaySmArg, PlayLeaf, PlaySmall, PlaySmallArg, RefMach, RefIns, RefRun, PlayAwake, PlayNoneMath, PlayJoinsMath, PlaysMath.
-/
import Derived.Test.YtohfejpjjjaejaaSh
import Derived.ProofKit
import Derived.OpenShut
import Derived.Deep.Slices
import Derived.BigRegion
import Derived.Deep.Cut
set_option linter.unusedVariables false
set_option linter.unusedSimpArgs false
set_option maxHeartbeats 32000000
namespace Go.Proofs.Ytohfejpjjjaejaa
open Go.RowKit
open Go.Lib (hid)
section
open Go.ChangeShapes Go.WideShapes Go.ChangeAt Go.RowKit

theorem cellsOf_node : Try.prog.cellsOf 24 = 3 := by kernel_rfl
theorem cellsOf_nodes : Try.prog.cellsOf 22 = 1 := by kernel_rfl
theorem cellsOf_byte : Try.prog.cellsOf 5 = 1 := by kernel_rfl
theorem spot_none {w : World} {a : Addr} {m : Nat} {cs : List Value} (h : w.cells? 0 a m = some cs) (hm : 0 < m) : a.spot = none := by
 obtain ⟨_, hl, h1⟩ := World.cells?_some h
 have h2 := h1 0 hm
 have e0 : a.add 0 = a := by simp [Addr.add]
 obtain ⟨v, hv⟩ : ∃ v, cs[0]? = some v := ⟨_, List.getElem?_eq_getElem (by omega)⟩
 rw [e0, hv] at h2
 have := addr_plain h2
 obtain ⟨b, o, s⟩ := a
 simp at this
 exact this

theorem cell_at {w : World} {b o : Nat} {m k : Nat} {cs : List Value} (h : w.cells? 0 ((⟨b, o, none⟩ : Addr).add k) m = some cs) (i : Nat) (v : Value) (hv : cs[i]? = some v) (hi : i < m) : w.cell? ⟨b, o + k + i, none⟩ = some v := by
 have h1 := (World.cells?_some h).2.2 i hi
 rw [hv] at h1
 have e : ((⟨b, o, none⟩ : Addr).add k).add i = ⟨b, o + k + i, none⟩ := by
  unfold Addr.add
  split <;> split <;> simp_all
 rw [e] at h1
 exact h1

section
variable {H : Type} (enc : TypeId × Value -> H) (w : World)

theorem slice_each {t e : TypeId} {fuel m : Nat} {cs : List Value} {x : DataW H × List MemPlace} (ht : Try.prog.underlying t = some (.slice e)) (hm : Try.prog.cellsOf e = m) (h0 : 0 < m) (h : DataW.trod enc Try.prog w 0 (fun _ => true) true fuel t cs = some x) :
  (∃ a, cs = [.slice a 0 0]) \/ ∃ a len cap n, n < fuel /\ cs = [.slice a len cap] /\ len <= cap /\ cap <= maxLen /\ (len = 0 \/ ∃ b o, a = some ⟨b, o, none⟩ /\ ∀ i, i < len -> ∃ cs' y, DataW.trod enc Try.prog w 0 (fun _ => true) true n e cs' = some y /\
   ∀ j v, cs'[j]? = some v -> j < m -> w.cell? ⟨b, o + i * m + j, none⟩ = some v) := by
 rcases DataW.trod_slice ht h with ⟨rfl, _⟩ | ⟨a, len, cap, elems, rest, n, rfl, rfl, _, hb, hl, hc, hlen, hel, _, _⟩
 ·exact .inl ⟨_, rfl⟩
 ·refine .inr ⟨some a, len, cap, n, by omega, rfl, hl, hc, ?_⟩
  by_cases hz : len = 0
  ·exact .inl hz
  right
  have each : ∀ i, i < len -> ∃ cs' y, w.cells? 0 (a.add (i * m)) m = some cs' /\ DataW.trod enc Try.prog w 0 (fun _ => true) true n e cs' = some y := by
   intro i hi
   have h1 := hel i hi
   rw [List.getElem?_eq_getElem (by omega), hm] at h1
   obtain ⟨cs', h2, h3⟩ := Option.bind_eq_some_iff.1 h1
   exact ⟨cs', _, h2, h3⟩
  obtain ⟨b, o, s⟩ := a
  obtain ⟨cs0, _, hc0, _⟩ := each 0 (by omega)
  have e0 : ((⟨b, o, s⟩ : Addr).add (0 * m)) = ⟨b, o, s⟩ := by simp [Addr.add]
  rw [e0] at hc0
  have hs := spot_none hc0 h0
  simp at hs
  subst hs
  refine ⟨b, o, rfl, fun i hi => ?_⟩
  obtain ⟨cs', y, h2, h3⟩ := each i hi
  exact ⟨cs', y, h3, fun j v hv hj => cell_at h2 j v hv hj⟩

theorem byte_reads {fuel : Nat} {cs : List Value} {x : DataW H × List MemPlace} (h : DataW.trod enc Try.prog w 0 (fun _ => true) true fuel 5 cs = some x) : ∃ k : Nat, k <= 255 /\ cs = [.int .u8 k] := by
 obtain ⟨n, rfl, _, hw⟩ := DataW.trod_int Try.underlying5 h
 have := bounds_u8 hw
 exact ⟨n.toNat, by omega, by rw [Int.toNat_of_nonneg this.1]⟩

set_option maxRecDepth 100000 in
theorem node_shows : ∀ (fuel : Nat) (cs : List Value) (x : DataW H × List MemPlace), DataW.trod enc Try.prog w 0 (fun _ => true) true fuel 24 cs = some x ->
  ∃ t c0 c1 c2, cs = [c0, c1, c2] /\ NShows w t (.agg #[c0, c1, c2]) := by
 intro fuel
 induction fuel using Nat.strongRecOn with
 | _ fuel ih =>
 intro cs x h
 obtain ⟨xs, n, rfl, rfl, hl, hlen, hf⟩ := DataW.trod_struct Try.underlying24 h
 rw [cellsOf_node] at hl
 match cs, hl with
 | [c0, c1, c2], _ =>
 have f0 : DataW.trod enc Try.prog w 0 (fun _ => true) true n 5 (List.take (Try.prog.cellsOf 5) (List.drop 0 [c0, c1, c2])) = xs[0]? := hf 0 _ rfl
 have f1 : DataW.trod enc Try.prog w 0 (fun _ => true) true n 5 (List.take (Try.prog.cellsOf 5) (List.drop 1 [c0, c1, c2])) = xs[1]? := hf 1 _ rfl
 have f2 : DataW.trod enc Try.prog w 0 (fun _ => true) true n 22 (List.take (Try.prog.cellsOf 22) (List.drop 2 [c0, c1, c2])) = xs[2]? := hf 2 _ rfl
 have hl3 : xs.length = 3 := hlen
 rw [List.getElem?_eq_getElem (by omega)] at f0 f1 f2
 simp only [cellsOf_byte, cellsOf_nodes, List.drop_zero, List.drop_succ_cons, List.take_succ_cons, List.take_zero] at f0 f1 f2
 obtain ⟨k, hk, e⟩ := byte_reads enc w f0
 simp at e
 subst e
 obtain ⟨m, hm, e⟩ := byte_reads enc w f1
 simp at e
 subst e
 rcases slice_each enc w Try.underlying22 cellsOf_node (by omega) f2 with ⟨a, e⟩ | ⟨a, len, cap, n', hn, e, hle, hc, hz | ⟨b, o, rfl, each⟩⟩
 ·simp at e
  subst e
  exact ⟨.mk k m 0 (fun _ => .nil), _, _, _, rfl, _, rfl, hk, hm, by unfold maxLen; omega, .inl ⟨rfl, _, _, rfl⟩⟩
 ·simp at e
  subst e hz
  exact ⟨.mk k m 0 (fun _ => .nil), _, _, _, rfl, _, rfl, hk, hm, by unfold maxLen; omega, .inl ⟨rfl, _, _, rfl⟩⟩
 ·simp at e
  subst e
  have ch : ∀ i, ∃ t, i < len -> ∃ x0 x1 x2, w.cell? ⟨b, o + i * 3, none⟩ = some x0 /\ w.cell? ⟨b, o + i * 3 + 1, none⟩ = some x1 /\ w.cell? ⟨b, o + i * 3 + 2, none⟩ = some x2 /\ NShows w t (.agg #[x0, x1, x2]) := by
   intro i
   by_cases hi : i < len
   ·obtain ⟨cs', y, h3, hcell⟩ := each i hi
    obtain ⟨t, x0, x1, x2, rfl, ht⟩ := ih n' (by omega) cs' y h3
    exact ⟨t, fun _ => ⟨x0, x1, x2, hcell 0 _ rfl (by omega), hcell 1 _ rfl (by omega), hcell 2 _ rfl (by omega), ht⟩⟩
   ·exact ⟨.nil, fun h => absurd h hi⟩
  obtain ⟨of, hof⟩ := Classical.axiomOfChoice ch
  exact ⟨.mk k m len of, _, _, _, rfl, _, rfl, hk, hm, by omega, .inr ⟨b, o, cap, rfl, hle, hof⟩⟩

end
end
section
open Go.ChangeShapes Go.WideShapes Go.ChangeAt Go.RowKit

theorem pint_reads {H : Type} (enc : TypeId × Value -> H) (w : World) {fuel : Nat} {cs : List Value} {x : DataW H × List MemPlace} {t : TypeId} {k : IntKind} (ht : Try.prog.underlying t = some (.int k)) (h : DataW.trod enc Try.prog w 0 (fun _ => true) true fuel t cs = some x) : ∃ n : Int, (Lit.int k n).wf = true /\ cs = [.int k n] := by
 obtain ⟨n, rfl, _, hw⟩ := DataW.trod_int ht h
 exact ⟨n, hw, rfl⟩

theorem pbool_reads {H : Type} (enc : TypeId × Value -> H) (w : World) {fuel : Nat} {cs : List Value} {x : DataW H × List MemPlace} {t : TypeId} (ht : Try.prog.underlying t = some .bool) (h : DataW.trod enc Try.prog w 0 (fun _ => true) true fuel t cs = some x) : ∃ b : Bool, cs = [.bool b] := by
 obtain ⟨n, rfl, _⟩ := DataW.trod_bool ht h
 exact ⟨n, rfl⟩

theorem cellsOf_int64 : Try.prog.cellsOf 2 = 1 := by kernel_rfl
theorem cellsOf_state : Try.prog.cellsOf 27 = 8 := by kernel_rfl

def StIn (s : Nat -> Int) : Prop := ∀ k, k < 8 -> -9223372036854775808 <= s k /\ s k <= 9223372036854775807

set_option maxRecDepth 100000 in
theorem state_reads {H : Type} (enc : TypeId × Value -> H) (w : World) {fuel : Nat} {cs : List Value} {x : DataW H × List MemPlace} (h : DataW.trod enc Try.prog w 0 (fun _ => true) true fuel 27 cs = some x) :
  ∃ s, StIn s /\ cs = (stC s).toList := by
 obtain ⟨xs, m, rfl, rfl, hl, hlen, hf⟩ := DataW.trod_array Try.underlying27 h
 rw [cellsOf_state] at hl
 match cs, hl with
 | [c0, c1, c2, c3, c4, c5, c6, c7], _ =>
 have each : ∀ i, i < 8 -> ∃ n : Int, (-9223372036854775808 <= n /\ n <= 9223372036854775807) /\ ((List.drop (i * 1) [c0, c1, c2, c3, c4, c5, c6, c7]).take 1) = [.int .i64 n] := by
  intro i hi
  have h1 := hf i hi
  rw [cellsOf_int64, List.getElem?_eq_getElem (by omega)] at h1
  obtain ⟨n, hn, e⟩ := pint_reads enc w Try.underlying2 h1
  have hb := bounds_i64 hn
  exact ⟨n, ⟨hb.1, hb.2⟩, e⟩
 obtain ⟨n0, b0, e0⟩ := each 0 (by omega)
 obtain ⟨n1, b1, e1⟩ := each 1 (by omega)
 obtain ⟨n2, b2, e2⟩ := each 2 (by omega)
 obtain ⟨n3, b3, e3⟩ := each 3 (by omega)
 obtain ⟨n4, b4, e4⟩ := each 4 (by omega)
 obtain ⟨n5, b5, e5⟩ := each 5 (by omega)
 obtain ⟨n6, b6, e6⟩ := each 6 (by omega)
 obtain ⟨n7, b7, e7⟩ := each 7 (by omega)
 simp at e0 e1 e2 e3 e4 e5 e6 e7
 subst e0 e1 e2 e3 e4 e5 e6 e7
 refine ⟨fun k => [n0, n1, n2, n3, n4, n5, n6, n7].getD k 0, fun k hk => ?_, rfl⟩
 have : k = 0 \/ k = 1 \/ k = 2 \/ k = 3 \/ k = 4 \/ k = 5 \/ k = 6 \/ k = 7 := by omega
 rcases this with rfl | rfl | rfl | rfl | rfl | rfl | rfl | rfl <;> assumption

set_option maxRecDepth 100000
end
section
structure Sm where
 op : Nat
 dst : Nat
 a : Nat
 b : Nat
 n : Int
 raw : Bool

structure Sm.Fits (x : Sm) : Prop where
 op : x.op <= 255
 dst : x.dst <= 255
 a : x.a <= 255
 b : x.b <= 255
 lo : -32768 <= x.n
 hi : x.n <= 32767

def SmAt (w : World) (g off : Nat) (l : List Sm) : Prop :=
 ∀ i x, l[i]? = some x -> x.Fits /\ w.cell? ⟨g, off + i * 6, none⟩ = some (.int .u8 x.op) /\ w.cell? ⟨g, off + i * 6 + 1, none⟩ = some (.int .u8 x.dst) /\ w.cell? ⟨g, off + i * 6 + 2, none⟩ = some (.int .u8 x.a) /\
  w.cell? ⟨g, off + i * 6 + 3, none⟩ = some (.int .u8 x.b) /\ w.cell? ⟨g, off + i * 6 + 4, none⟩ = some (.int .i16 x.n) /\ w.cell? ⟨g, off + i * 6 + 5, none⟩ = some (.bool x.raw)

def SmSees (w : World) (v : Value) (l : List Sm) : Prop :=
 l.length <= maxLen /\ ((l = [] /\ ∃ a c, v = .slice a 0 c) \/ ∃ g off cap, v = .slice (some ⟨g, off, none⟩) l.length cap /\ l.length <= cap /\ SmAt w g off l)

theorem SmAt.fr0 {w w' : World} {g off : Nat} {l : List Sm} (h : SmAt w g off l) (hf : Fr (fun _ => False) w w') : SmAt w' g off l := by
 intro i x hx
 obtain ⟨h0, h1, h2, h3, h4, h5, h6⟩ := h i x hx
 exact ⟨h0, cell_fr0 hf h1, cell_fr0 hf h2, cell_fr0 hf h3, cell_fr0 hf h4, cell_fr0 hf h5, cell_fr0 hf h6⟩

theorem SmSees.fr0 {w w' : World} {v : Value} {l : List Sm} (h : SmSees w v l) (hf : Fr (fun _ => False) w w') : SmSees w' v l := by
 obtain ⟨h1, h | ⟨g, off, cap, rfl, hle, hc⟩⟩ := h
 ·exact ⟨h1, .inl h⟩
 ·exact ⟨h1, .inr ⟨g, off, cap, rfl, hle, hc.fr0 hf⟩⟩

theorem SmSees.shape {w : World} {v : Value} {l : List Sm} (h : SmSees w v l) : ∃ a c, v = .slice a l.length c /\ (l = [] \/ ∃ g off, a = some ⟨g, off, none⟩ /\ l.length <= c /\ SmAt w g off l) := by
 obtain ⟨_, ⟨rfl, a, c, rfl⟩ | ⟨g, off, cap, rfl, hle, hc⟩⟩ := h
 ·exact ⟨a, c, rfl, .inl rfl⟩
 ·exact ⟨_, cap, rfl, .inr ⟨g, off, rfl, hle, hc⟩⟩

theorem and_small (n : Int) (m : Nat) (hm : m <= 32767) : 0 <= bits .and .i16 n m /\ bits .and .i16 n m <= m := by
 have h2 : (BitVec.ofInt IntKind.i16.bits (m : Int)).toNat = m := by
  show (BitVec.ofInt 16 (m : Int)).toNat = m
  simp; omega
 have h1 : (BitVec.ofInt IntKind.i16.bits n &&& BitVec.ofInt IntKind.i16.bits (m : Int)).toNat <= m := by
  rw [BitVec.toNat_and]
  exact Nat.le_trans Nat.and_le_right (by omega)
 have h3 : bits .and .i16 n m = IntKind.i16.wrap ((BitVec.ofInt IntKind.i16.bits n &&& BitVec.ofInt IntKind.i16.bits (m : Int)).toNat : Int) := rfl
 generalize (BitVec.ofInt IntKind.i16.bits n &&& BitVec.ofInt IntKind.i16.bits (m : Int)).toNat = q at h1 h3
 have h4 : IntKind.i16.wrap (q : Int) = q := by
  simp [IntKind.wrap, IntKind.bits, IntKind.signed]; omega
 rw [h3, h4]
 omega

theorem sees_one {w : World} {g : Nat} {cs : Array Value} {t : TypeId} {f : Nat × Nat} (h : w.heap[g]? = some (.cells cs t f)) (x : Ins) (hf : x.Fits) (hc : cs.toList = insC x) : PSees w (.slice (some ⟨g, 0, none⟩) 1 1) [x] := by
 have hcs : cs = (insC x).toArray := Array.ext' (by rw [hc])
 subst hcs
 have key : ∀ j u, (insC x)[j]? = some u -> w.cell? ⟨g, j, none⟩ = some u := by
  intro j u hu
  rw [cell_of_row w g j _ t f h]
  simpa using hu
 refine .inr ⟨g, 1, rfl, by simp, fun i y hy => ?_⟩
 match i with
 | 0 => cases hy; exact ⟨hf, key 0 _ rfl, key 1 _ rfl, key 2 _ rfl, key 3 _ rfl, key 4 _ rfl⟩
 | i + 1 => cases hy

theorem pre_snoc {l : List Ins} {x : Ins} (h : ∀ y ∈ l, Pre y) (hx : Pre x) : ∀ y ∈ l ++ [x], Pre y := by
 intro y hy
 rcases List.mem_append.1 hy with h1 | h1
 ·exact h y h1
 ·rw [List.mem_singleton.1 h1]; exact hx

theorem PTold.frozen {w wr : World} {g n cap : Nat} {l : List Ins} (h : PTold w wr (.slice (some ⟨g, 0, none⟩) n cap) l) (k : Nat) : wr.frozen? ⟨g, k, none⟩ = false := by
 obtain ⟨_, ⟨e, _⟩ | ⟨g', cap', cur, e, hb, hg, _⟩⟩ := h.1
 ·cases e
 ·simp at e
  obtain ⟨rfl, _⟩ := e
  simp [World.frozen?, hg]

theorem PTold.sees {w wr : World} {v : Value} {l : List Ins} (h : PTold w wr v l) (hp : ∀ x ∈ l, Pre x) : PSees wr v l := h.1.sees (fun x hx => (hp x hx).fits)

theorem PTold.at_ {w wr : World} {g n cap : Nat} {l : List Ins} (h : PTold w wr (.slice (some ⟨g, 0, none⟩) n cap) l) (hp : ∀ x ∈ l, Pre x) : PAt wr g l := by
 rcases h.sees hp with ⟨rfl, _⟩ | ⟨g', cap', e, _, hat⟩
 ·intro i x hx; simp at hx
 ·simp at e
  obtain ⟨rfl, _⟩ := e
  exact hat

theorem PTold.shape {w wr : World} {v : Value} {l : List Ins} (h : PTold w wr v l) : ∃ a c, v = .slice a l.length c /\ (l.length = 0 \/ ∃ g, a = some ⟨g, 0, none⟩ /\ l.length <= c /\ w.heap.size <= g) := by
 obtain ⟨⟨_, ⟨rfl, e⟩ | ⟨g, cap, cur, rfl, _, hg, hle, _⟩⟩, _, hk⟩ := h
 ·exact ⟨none, 0, by rw [e], .inl e⟩
 ·exact ⟨_, cap, rfl, .inr ⟨g, rfl, hle, hk g rfl⟩⟩

theorem pre_set {l : List Ins} (h : ∀ y ∈ l, Pre y) (i : Nat) : ∀ y ∈ l.set i ⟨2, 0, 0, 0, 0⟩, Pre y := by
 intro y hy
 rcases List.mem_or_eq_of_mem_set hy with h1 | rfl
 ·exact h y h1
 ·exact ⟨⟨by decide, by decide, by decide, by decide, by decide, by decide⟩, by decide, by decide, by decide, .inr (by decide), fun h => by cases h⟩

theorem op_cases (o : Nat) : (o = 9) \/ (o = 8) \/ (((o : Int) == 9) = false /\ ((o : Int) == 8) = false) := by
 by_cases h : o = 9
 ·exact .inl h
 ·by_cases h' : o = 8
  ·exact .inr (.inl h')
  ·exact .inr (.inr (by constructor <;> (simp; omega)))

theorem sees_take {w : World} {g N cap i : Nat} {l : List Ins} (h : PAt w g l) (hl : l.length = N) (hi : i < N) (hc : N <= cap) : PSees w (.slice (some ⟨g, 0, none⟩) (i + 1) cap) (l.take (i + 1)) :=
 .inr ⟨g, cap, by rw [List.length_take]; congr 1; omega, by rw [List.length_take]; omega, h.take _⟩

theorem own_empty (w : World) : POwn (w.alloc (.cells #[] 79)) (.slice (some ⟨w.heap.size, 0, none⟩) 0 0) [] :=
 ⟨rfl, .inr ⟨w.heap.size, 0, #[], rfl, Nat.zero_le _, heap_alloc_new w _, Nat.le_refl _, by unfold maxLen; omega, rfl, rfl⟩⟩

theorem fr_append {w w' : World} {o : Obj} {n c : Nat} (h : (w.alloc o).grownBy w' (Value.ownBlock (.slice (some ⟨w.heap.size, 0, none⟩) n c))) : Fr (fun _ => False) w w' :=
 ((Fr.refl _ _).alloc _).trans (Fr.of_grown h) (fun i hi e => by simp [Value.ownBlock] at e; omega)

set_option maxRecDepth 100000 in
theorem program_any (sm : List Sm) (v : Value) (w : World) (h : SmSees w v sm) :
  Calls Try.prog 19 #[v] w fun e w' => ∃ v' l, e = .returned v' /\ PTold w w' v' l /\ l.length <= 16 /\ l.length <= sm.length /\ (∀ x ∈ l, x.Fits) /\ pcheckE l = 0 := by
 have hm := h.1
 unfold maxLen at hm
 obtain ⟨a, cap, rfl, hs⟩ := h.shape
 have Hs := hid hs
 clear h hs
 go_enter Try.func19, Try.ntmps19
 go_wp2
 go_loopg [3, 4, 5, 6, 14] sm.length (fun G u3 u4 u5 u6 u14 wr => ∃ (k : Nat) (l : List Ins), k <= sm.length /\ G = sm.length - k /\ u14 = .int .i64 k /\ Hid (PTold w wr u3 l /\ l.length <= k /\ l.length <= 16 /\ ∀ x ∈ l, Pre x))
 case atStart => exact ⟨0, [], Nat.zero_le _, rfl, rfl, hid ⟨⟨POwn.nil _, Fr.refl _ _, by simp [Value.ownBlock]⟩, Nat.le_refl _, by simp, by simp⟩⟩
 case round =>
  obtain ⟨k, l, hk, rfl, rfl, HI⟩ := hrel
  by_cases hlt : k < sm.length
  ·rcases Hs.out with rfl | ⟨g, off, rfl, hcap, hat⟩
   ·simp at hlt
   obtain ⟨x, hx⟩ : ∃ x, sm[k]? = some x := ⟨_, List.getElem?_eq_getElem hlt⟩
   obtain ⟨hf, c0, c1, c2, c3, c4, c5⟩ := hat.fr0 HI.out.1.2.1 k x hx
   obtain ⟨f1, f2, f3, f4, f5, f6⟩ := hf
   clear hx hat
   obtain ⟨op, dst, aa, b, n, raw⟩ := x
   dsimp only at *
   by_cases h16 : k < 16
   ·obtain ⟨o, ho, ho12⟩ : ∃ o : Nat, (op : Int) % 12 = o /\ o < 12 := ⟨op % 12, by omega, by omega⟩
    obtain ⟨d, hd, hd16⟩ : ∃ o : Nat, (dst : Int) % 16 = o /\ o < 16 := ⟨dst % 16, by omega, by omega⟩
    obtain ⟨a1, ha, ha16⟩ : ∃ o : Nat, (aa : Int) % 16 = o /\ o < 16 := ⟨aa % 16, by omega, by omega⟩
    obtain ⟨b1, hb, hb16⟩ : ∃ o : Nat, (b : Int) % 16 = o /\ o < 16 := ⟨b % 16, by omega, by omega⟩
    by_cases h9 : o = 9
    ·subst h9
     obtain ⟨m, hm7, hm0, hm8⟩ : ∃ m : Int, bits .and .i16 n 7 = m /\ 0 <= m /\ m <= 7 := ⟨_, rfl, and_small n 7 (by omega)⟩
     obtain ⟨b4, hb4, hb5⟩ : ∃ q : Nat, Int.tmod b 4 = q /\ q < 4 := ⟨b % 4, (Int.ofNat_tmod b 4).symm, by omega⟩
     have hb6 : (b : Int) % 4 = b4 := by rw [<- hb4]; rfl
     have HP : Hid (Pre ⟨9, d, a1, 1 + b4, 1 + m⟩) := hid ⟨⟨by show 9 <= 255; omega, by show d <= 255; omega, by show a1 <= 255; omega, by show 1 + b4 <= 255; omega, by show -32768 <= 1 + m; omega, by show 1 + m <= 32767; omega⟩, ho12, hd16, ha16, .inl rfl, fun h => absurd h (by simp)⟩
     clear ho12
     go_wp2
     go_region
     go_wp2_with (at_builtin; refine wpList_append_ins rfl (.tmp 63) (.tmp 65) rfl u3 l rfl ?own _ [⟨9, d, a1, 1 + b4, 1 + m⟩] rfl ?src ?len ?grow)
     case own => exact HI.out.1.1.fr (S := fun _ => False) (by (repeat first | exact Fr.refl _ _ | refine Fr.drew ?_ | refine Fr.alloc ?_ _ | refine Fr.setCell ?_ (fun h => absurd h (by simp)) _)) fid2
     case src => exact (sees_one (new_three wr _ _ _) _ HP.out.fits rfl).fr ((Fr.refl _ _).drew) fid2
     case len => have := HI.out.2.1; simp; omega
     case grow =>
      intro v' w3 hown' hgrow hcase
      have HO := hid (HI.out.1.append (by (repeat first | exact Fr.refl _ _ | refine Fr.drew ?_ | refine Fr.alloc ?_ _ | refine Fr.setCell ?_ (fun h => absurd h (by simp)) _)) hown' hgrow hcase (by omega))
      clear hown' hgrow hcase
      go_wp2
      go_roundg (sm.length - (k + 1))
      case measure => omega
      case rel => exact ⟨k + 1, _, by omega, rfl, by go_num, hid ⟨HO.out, by have := HI.out.2.1; simp; omega, by have := HI.out.2.1; simp; omega, pre_snoc HI.out.2.2.2 HP.out⟩⟩
    ·by_cases h8 : o = 8
     ·subst h8
      obtain ⟨m, hm7, hm0, hm8⟩ : ∃ m : Int, bits .and .i16 n 3 = m /\ 0 <= m /\ m <= 3 := ⟨_, rfl, and_small n 3 (by omega)⟩
      have HP : Hid (Pre ⟨8, d, a1, b1, 1 + m⟩) := hid ⟨⟨by show 8 <= 255; omega, by show d <= 255; omega, by show a1 <= 255; omega, by show b1 <= 255; omega, by show -32768 <= 1 + m; omega, by show 1 + m <= 32767; omega⟩, ho12, hd16, ha16, .inr hb16, fun h => absurd h (by simp)⟩
      clear h9 ho12
      go_wp2_with (at_builtin; refine wpList_append_ins rfl (.tmp 63) (.tmp 65) rfl u3 l rfl ?own _ [⟨8, d, a1, b1, 1 + m⟩] rfl ?src ?len ?grow)
      case own => exact HI.out.1.1.fr (S := fun _ => False) (by (repeat first | exact Fr.refl _ _ | refine Fr.drew ?_ | refine Fr.alloc ?_ _ | refine Fr.setCell ?_ (fun h => absurd h (by simp)) _)) fid2
      case src => exact sees_one (new_three wr _ _ _) _ HP.out.fits rfl
      case len => have := HI.out.2.1; simp; omega
      case grow =>
       intro v' w3 hown' hgrow hcase
       have HO := hid (HI.out.1.append (by (repeat first | exact Fr.refl _ _ | refine Fr.drew ?_ | refine Fr.alloc ?_ _ | refine Fr.setCell ?_ (fun h => absurd h (by simp)) _)) hown' hgrow hcase (by omega))
       clear hown' hgrow hcase
       go_wp2
       go_roundg (sm.length - (k + 1))
       case measure => omega
       case rel => exact ⟨k + 1, _, by omega, rfl, by go_num, hid ⟨HO.out, by have := HI.out.2.1; simp; omega, by have := HI.out.2.1; simp; omega, pre_snoc HI.out.2.2.2 HP.out⟩⟩
     ·by_cases h10 : o = 10
      ·subst h10
       obtain ⟨m, hm7, hm0, hm8⟩ : ∃ m : Int, bits .and .i16 n 31 = m /\ 0 <= m /\ m <= 31 := ⟨_, rfl, and_small n 31 (by omega)⟩
       have HP : Hid (Pre ⟨10, d, a1, b1, m⟩) := hid ⟨⟨by show 10 <= 255; omega, by show d <= 255; omega, by show a1 <= 255; omega, by show b1 <= 255; omega, by show -32768 <= m; omega, by show m <= 32767; omega⟩, ho12, hd16, ha16, .inr hb16, fun _ => hm0⟩
       clear h9 h8 ho12
       go_wp2_with (at_builtin; refine wpList_append_ins rfl (.tmp 63) (.tmp 65) rfl u3 l rfl ?own _ [⟨10, d, a1, b1, m⟩] rfl ?src ?len ?grow)
       case own => exact HI.out.1.1.fr (S := fun _ => False) (by (repeat first | exact Fr.refl _ _ | refine Fr.drew ?_ | refine Fr.alloc ?_ _ | refine Fr.setCell ?_ (fun h => absurd h (by simp)) _)) fid2
       case src => exact sees_one (new_three wr _ _ _) _ HP.out.fits rfl
       case len => have := HI.out.2.1; simp; omega
       case grow =>
        intro v' w3 hown' hgrow hcase
        have HO := hid (HI.out.1.append (by (repeat first | exact Fr.refl _ _ | refine Fr.drew ?_ | refine Fr.alloc ?_ _ | refine Fr.setCell ?_ (fun h => absurd h (by simp)) _)) hown' hgrow hcase (by omega))
        clear hown' hgrow hcase
        go_wp2
        go_roundg (sm.length - (k + 1))
        case measure => omega
        case rel => exact ⟨k + 1, _, by omega, rfl, by go_num, hid ⟨HO.out, by have := HI.out.2.1; simp; omega, by have := HI.out.2.1; simp; omega, pre_snoc HI.out.2.2.2 HP.out⟩⟩
      ·have e9 : ((o : Int) == 9) = false := by simp; omega
       have e8 : ((o : Int) == 8) = false := by simp; omega
       have e10 : ((o : Int) == 10) = false := by simp; omega
       have HP : Hid (Pre ⟨o, d, a1, b1, n⟩) := hid ⟨⟨by show o <= 255; omega, by show d <= 255; omega, by show a1 <= 255; omega, by show b1 <= 255; omega, f5, f6⟩, ho12, hd16, ha16, .inr hb16, fun h => absurd h h10⟩
       clear h9 h8 h10
       go_wp2_with (at_builtin; refine wpList_append_ins rfl (.tmp 63) (.tmp 65) rfl u3 l rfl ?own _ [⟨o, d, a1, b1, n⟩] rfl ?src ?len ?grow)
       case own => exact HI.out.1.1.fr (S := fun _ => False) (by (repeat first | exact Fr.refl _ _ | refine Fr.drew ?_ | refine Fr.alloc ?_ _ | refine Fr.setCell ?_ (fun h => absurd h (by simp)) _)) fid2
       case src => exact sees_one (new_three wr _ _ _) _ HP.out.fits rfl
       case len => have := HI.out.2.1; simp; omega
       case grow =>
        intro v' w3 hown' hgrow hcase
        have HO := hid (HI.out.1.append (by (repeat first | exact Fr.refl _ _ | refine Fr.drew ?_ | refine Fr.alloc ?_ _ | refine Fr.setCell ?_ (fun h => absurd h (by simp)) _)) hown' hgrow hcase (by omega))
        clear hown' hgrow hcase
        go_wp2
        go_roundg (sm.length - (k + 1))
        case measure => omega
        case rel => exact ⟨k + 1, _, by omega, rfl, by go_num, hid ⟨HO.out, by have := HI.out.2.1; simp; omega, by have := HI.out.2.1; simp; omega, pre_snoc HI.out.2.2.2 HP.out⟩⟩
   ·have FB := hid (HI.out.1.fr (((Fr.refl (fun _ => False) wr).alloc (.cells #[.int .u8 op, .int .u8 dst, .int .u8 aa, .int .u8 b, .int .i16 n, .bool raw] 103))))
    go_wp2
    go_roundg (sm.length - (k + 1))
    case measure => omega
    case rel => exact ⟨k + 1, l, by omega, rfl, by go_num, hid ⟨FB.out, by have := HI.out.2.1; omega, HI.out.2.2⟩⟩
  ·obtain rfl : k = sm.length := by omega
   have hN : l.length <= 16 := HI.out.2.2.1
   have hNs : l.length <= sm.length := HI.out.2.1
   obtain ⟨a3, c3, rfl, hS3⟩ := HI.out.1.shape
   obtain ⟨N, hNe⟩ : ∃ N, l.length = N := ⟨_, rfl⟩
   have H1 := HI.out.1
   rw [hNe] at hN hNs hS3 H1
   have HS3 := hid hS3
   have H1 := hid (show PTold w wr (.slice a3 N c3) l /\ l.length = N /\ ∀ x ∈ l, Pre x from ⟨H1, hNe, HI.out.2.2.2⟩)
   rw [hNe]
   clear hS3 HI Hs hNe
   go_wp2
   go_loopg [7, 8, 9, 10, 68] 40 (fun G u7 u8 u9 u10 u68 wr => ∃ (j : Nat) (l2 : List Ins), j <= 40 /\ G = 40 - j /\ u68 = .int .i64 j /\ Hid (PTold w wr (.slice a3 N c3) l2 /\ l2.length = N /\ ∀ x ∈ l2, Pre x))
   case atStart => exact ⟨0, l, Nat.zero_le _, rfl, rfl, H1⟩
   case round =>
    obtain ⟨j, l2, hj, rfl, rfl, H2⟩ := hrel
    clear H1
    by_cases hlt2 : j < 40
    ·have hd40 : decide ((j : Int) < 40) = true := by simp; omega
     have HL := hid hlt2
     clear hlt2
     go_wp2
     clear hd40
     go_loopg [7, 8, 9, 10, 72] N (fun G u7 u8 u9 u10 u72 wx => ∃ (i : Nat) (bad : Int), i <= N /\ G = N - i /\ u72 = .int .i64 i /\ u7 = .int .i64 bad /\ -1 <= bad /\ bad < N /\ Hid (PTold w wx (.slice a3 N c3) l2 /\ l2.length = N /\ ∀ x ∈ l2, Pre x))
     case atStart => exact ⟨0, -1, Nat.zero_le _, rfl, rfl, rfl, by omega, by omega, H2⟩
     case round =>
      obtain ⟨i, bad, hi, rfl, rfl, rfl, hb0, hb1, HJ⟩ := hrel
      obtain ⟨wx, rfl⟩ : ∃ wx : World, wx = wr := ⟨_, rfl⟩
      clear H2
      by_cases hlt3 : i < N
      ·rcases HS3.out with hz | ⟨g3, rfl, hcap3, hold⟩
       ·omega
       by_cases hbn : bad < 0
       ·obtain rfl : bad = -1 := by omega
        have HC := hid (pcheck_any l2 _ wx (by have := HJ.out.2.1; omega) (HJ.out.1.sees HJ.out.2.2))
        have hle := checkE_le l2
        obtain ⟨x, hx⟩ : ∃ x, l2[i]? = some x := ⟨_, List.getElem?_eq_getElem (by have := HJ.out.2.1; omega)⟩
        have hat := HJ.out.1.at_ HJ.out.2.2
        obtain ⟨hf, c0, -, -, -, -⟩ := hat i x hx
        have hop := hf.op
        have HX := hid hx
        clear hat hf hx
        obtain ⟨op, xd, xa, xb, xn⟩ := x
        dsimp only at *
        generalize pcheckE l2 = E at HC hle
        by_cases hE : E = 0
        ·subst hE
         go_wp2_with fail
         refine HC.out.mono ?_
         rintro r w1 ⟨rfl, q1⟩
         have Q1 := hid q1
         go_wp2
         go_roundg (N - (i + 1))
         case measure => omega
         case rel => exact ⟨i + 1, -1, by omega, rfl, by go_num, rfl, by omega, by omega, hid ⟨HJ.out.1.fr Q1.out, HJ.out.2⟩⟩
        ·have e0 : ((E : Int) == 0) = false := by simp; omega
         have e1 : ((E : Int) != 0) = true := by simp; omega
         clear hE
         rcases op_cases op with rfl | rfl | ⟨e9, e8⟩
         ·go_wp2_with fail
          refine HC.out.mono ?_
          rintro r w1 ⟨rfl, q1⟩
          have Q1 := hid q1
          clear q1
          go_wp2_with (at_builtin; refine wpList_append_ins rfl (.tmp 95) (.tmp 99) rfl (.slice (some ⟨w1.heap.size, 0, none⟩) 0 0) [] rfl (own_empty w1) (.slice (some ⟨g3, 0, none⟩) (i + 1) c3) (l2.take (i + 1)) rfl ?src ?len ?grow)
          case src => exact sees_take ((HJ.out.1.at_ HJ.out.2.2).fr (Q1.out.alloc _) (fun h => h)) HJ.out.2.1 (by omega) hcap3
          case len => rw [List.length_nil, List.length_take]; omega
          case grow =>
           intro v' w3 hown' hgrow hcase
           have Q3 := hid (Q1.out.trans (fr_append hgrow) fid2)
           have HO := hid hown'
           clear hown' hgrow hcase
           go_wp2
           go_roundg (N - (i + 1))
           case measure => omega
           case rel => exact ⟨i + 1, i, by omega, rfl, by go_num, rfl, by omega, by omega, hid ⟨HJ.out.1.fr Q3.out, HJ.out.2⟩⟩
         ·go_wp2_with fail
          refine HC.out.mono ?_
          rintro r w1 ⟨rfl, q1⟩
          have Q1 := hid q1
          clear q1
          go_wp2_with (at_builtin; refine wpList_append_ins rfl (.tmp 95) (.tmp 99) rfl (.slice (some ⟨w1.heap.size, 0, none⟩) 0 0) [] rfl (own_empty w1) (.slice (some ⟨g3, 0, none⟩) (i + 1) c3) (l2.take (i + 1)) rfl ?src ?len ?grow)
          case src => exact sees_take ((HJ.out.1.at_ HJ.out.2.2).fr (Q1.out.alloc _) (fun h => h)) HJ.out.2.1 (by omega) hcap3
          case len => rw [List.length_nil, List.length_take]; omega
          case grow =>
           intro v' w3 hown' hgrow hcase
           have Q3 := hid (Q1.out.trans (fr_append hgrow) fid2)
           have HO := hid hown'
           clear hown' hgrow hcase
           have HK := hid (pcheck_any (l2.take (i + 1)) v' w3 (by rw [List.length_take]; omega) (POwn.sees HO.out (fun x hx => (HJ.out.2.2 x (List.mem_of_mem_take hx)).fits)))
           have hle2 := checkE_le (l2.take (i + 1))
           generalize pcheckE (l2.take (i + 1)) = E2 at HK hle2
           by_cases hE2 : E2 = 0
           ·subst hE2
            by_cases hlast : i + 1 = N
            ·have el : ((i : Int) == (N : Int) - 1) = true := by simp; omega
             clear hlast
             go_wp2_with fail
             refine HK.out.mono ?_
             rintro r w4 ⟨rfl, q4⟩
             have Q4 := hid (Q3.out.trans q4 fid2)
             go_wp2
             go_roundg (N - (i + 1))
             case measure => omega
             case rel => exact ⟨i + 1, i, by omega, rfl, by go_num, rfl, by omega, by omega, hid ⟨HJ.out.1.fr Q4.out, HJ.out.2⟩⟩
            ·have el : ((i : Int) == (N : Int) - 1) = false := by simp; omega
             clear hlast
             go_wp2_with fail
             refine HK.out.mono ?_
             rintro r w4 ⟨rfl, q4⟩
             have Q4 := hid (Q3.out.trans q4 fid2)
             go_wp2
             go_roundg (N - (i + 1))
             case measure => omega
             case rel => exact ⟨i + 1, -1, by omega, rfl, by go_num, rfl, by omega, by omega, hid ⟨HJ.out.1.fr Q4.out, HJ.out.2⟩⟩
           ·have k0 : ((E2 : Int) == 0) = false := by simp; omega
            have k1 : ((E2 : Int) != 0) = true := by simp; omega
            clear hE2
            go_wp2_with fail
            refine HK.out.mono ?_
            rintro r w4 ⟨rfl, q4⟩
            have Q4 := hid (Q3.out.trans q4 fid2)
            go_wp2
            go_roundg (N - (i + 1))
            case measure => omega
            case rel => exact ⟨i + 1, i, by omega, rfl, by go_num, rfl, by omega, by omega, hid ⟨HJ.out.1.fr Q4.out, HJ.out.2⟩⟩
         ·go_wp2_with fail
          refine HC.out.mono ?_
          rintro r w1 ⟨rfl, q1⟩
          have Q1 := hid q1
          clear q1
          go_wp2
          go_roundg (N - (i + 1))
          case measure => omega
          case rel => exact ⟨i + 1, -1, by omega, rfl, by go_num, rfl, by omega, by omega, hid ⟨HJ.out.1.fr Q1.out, HJ.out.2⟩⟩
       ·have HC := HJ
        obtain ⟨x, hx⟩ : ∃ x, l2[i]? = some x := ⟨_, List.getElem?_eq_getElem (by have := HJ.out.2.1; omega)⟩
        have hat := HJ.out.1.at_ HJ.out.2.2
        obtain ⟨hf, c0, -, -, -, -⟩ := hat i x hx
        have hop := hf.op
        have HX := hid hx
        clear hat hf hx
        obtain ⟨op, xd, xa, xb, xn⟩ := x
        dsimp only at *
        go_wp2
        go_roundg (N - (i + 1))
        case measure => omega
        case rel => exact ⟨i + 1, bad, by omega, rfl, by go_num, rfl, by omega, by omega, hid ⟨HJ.out.1.fr (Fr.refl _ _), HJ.out.2⟩⟩
      ·obtain rfl : N = i := by omega
       by_cases hbn : bad < 0
       ·have H2 := HJ
        go_wp2
        go_loopg [11, 126] N (fun G u11 u126 wr => ∃ (i : Nat) (l3 : List Ins), i <= N /\ G = N - i /\ u126 = .int .i64 i /\ Hid (PTold w wr (.slice a3 N c3) l3 /\ l3.length = N /\ (∀ x ∈ l3, Pre x) /\ (pcheckE l3 = 0 \/ ∀ j x, j < i -> l3[j]? = some x -> x.op ≠ 8 /\ x.op ≠ 9)))
        case atStart => exact ⟨0, l2, Nat.zero_le _, rfl, rfl, hid ⟨H2.out.1, H2.out.2.1, H2.out.2.2, .inr (fun j x hj => by omega)⟩⟩
        case round =>
         obtain ⟨i, l3, hi, rfl, rfl, H3⟩ := hrel
         by_cases hlt3 : i < N
         ·rcases HS3.out with hz | ⟨g3, rfl, hcap3, hold⟩
          ·omega
          have HC := hid (pcheck_any l3 _ wr (by have := H3.out.2.1; omega) (H3.out.1.sees H3.out.2.2.1))
          have hle := checkE_le l3
          obtain ⟨x, hx⟩ : ∃ x, l3[i]? = some x := ⟨_, List.getElem?_eq_getElem (by have := H3.out.2.1; omega)⟩
          have hat := H3.out.1.at_ H3.out.2.2.1
          obtain ⟨hf, c0, -, -, -, -⟩ := hat i x hx
          have hop := hf.op
          have HX := hid hx
          clear hat hf hx
          obtain ⟨op, xd, xa, xb, xn⟩ := x
          dsimp only at *
          by_cases hE : pcheckE l3 = 0
          ·rw [hE] at HC
           have HE := hid hE
           clear hE hle
           go_wp2_with fail
           refine HC.out.mono ?_
           rintro r w1 ⟨rfl, q1⟩
           have Q1 := hid q1
           go_wp2
           go_roundg (N - (i + 1))
           case measure => omega
           case rel => exact ⟨i + 1, l3, by omega, rfl, by go_num, hid ⟨H3.out.1.fr Q1.out, H3.out.2.1, H3.out.2.2.1, .inl HE.out⟩⟩
          ·have HN := hid hE
           obtain ⟨E, hEE⟩ : ∃ E, E = pcheckE l3 := ⟨_, rfl⟩
           rw [<- hEE] at HC hE hle
           have e0 : ((E : Int) == 0) = false := by simp; omega
           have e1 : ((E : Int) != 0) = true := by simp; omega
           clear hE hEE
           have store : ∀ w1, Fr (fun _ => False) wr w1 -> PTold w (setIns w1 g3 i ⟨2, 0, 0, 0, 0⟩) (.slice (some ⟨g3, 0, none⟩) N c3) (l3.set i ⟨2, 0, 0, 0, 0⟩) /\ (l3.set i ⟨2, 0, 0, 0, 0⟩).length = N /\ (∀ x ∈ l3.set i ⟨2, 0, 0, 0, 0⟩, Pre x) /\
             (pcheckE (l3.set i ⟨2, 0, 0, 0, 0⟩) = 0 \/ ∀ j x, j < i + 1 -> (l3.set i ⟨2, 0, 0, 0, 0⟩)[j]? = some x -> x.op ≠ 8 /\ x.op ≠ 9) := by
            intro w1 f
            refine ⟨(H3.out.1.fr f).set i (by have := H3.out.2.1; omega) _, by rw [List.length_set]; exact H3.out.2.1, pre_set H3.out.2.2.1 i, .inr (fun j x hj hx => ?_)⟩
            rw [List.getElem?_set] at hx
            by_cases hij : i = j
            ·subst hij
             rw [if_pos rfl, if_pos (by have := H3.out.2.1; omega)] at hx
             cases hx
             exact ⟨by decide, by decide⟩
            ·rw [if_neg hij] at hx
             rcases H3.out.2.2.2 with h | h
             ·exact absurd h HN.out
             ·exact h j x (by omega) hx
           have HST := hid store
           clear store
           rcases op_cases op with rfl | rfl | ⟨e9, e8⟩
           ·go_wp2_with fail
            refine HC.out.mono ?_
            rintro r w1 ⟨rfl, q1⟩
            have Q1 := hid q1
            replace c0 := cell_fr0 q1 c0
            have z0 := (H3.out.1.fr q1).frozen (i * 5)
            have z1 := (H3.out.1.fr q1).frozen (i * 5 + 1)
            have z2 := (H3.out.1.fr q1).frozen (i * 5 + 2)
            have z3 := (H3.out.1.fr q1).frozen (i * 5 + 3)
            have z4 := (H3.out.1.fr q1).frozen (i * 5 + 4)
            have hgs : g3 < w1.heap.size := (H3.out.1.fr q1).1.lt g3 rfl
            have d1 := cell_fr0 q1 (H3.out.1.at_ H3.out.2.2.1 i _ HX.out).2.2.1
            have d2 := cell_fr0 q1 (H3.out.1.at_ H3.out.2.2.1 i _ HX.out).2.2.2.1
            have d3 := cell_fr0 q1 (H3.out.1.at_ H3.out.2.2.1 i _ HX.out).2.2.2.2.1
            have d4 := cell_fr0 q1 (H3.out.1.at_ H3.out.2.2.1 i _ HX.out).2.2.2.2.2
            clear q1
            go_wp2
            go_roundg (N - (i + 1))
            case measure => omega
            case rel => exact ⟨i + 1, l3.set i ⟨2, 0, 0, 0, 0⟩, by omega, rfl, by go_num, hid (HST.out w1 Q1.out)⟩
           ·go_wp2_with fail
            refine HC.out.mono ?_
            rintro r w1 ⟨rfl, q1⟩
            have Q1 := hid q1
            replace c0 := cell_fr0 q1 c0
            have z0 := (H3.out.1.fr q1).frozen (i * 5)
            have z1 := (H3.out.1.fr q1).frozen (i * 5 + 1)
            have z2 := (H3.out.1.fr q1).frozen (i * 5 + 2)
            have z3 := (H3.out.1.fr q1).frozen (i * 5 + 3)
            have z4 := (H3.out.1.fr q1).frozen (i * 5 + 4)
            have hgs : g3 < w1.heap.size := (H3.out.1.fr q1).1.lt g3 rfl
            have d1 := cell_fr0 q1 (H3.out.1.at_ H3.out.2.2.1 i _ HX.out).2.2.1
            have d2 := cell_fr0 q1 (H3.out.1.at_ H3.out.2.2.1 i _ HX.out).2.2.2.1
            have d3 := cell_fr0 q1 (H3.out.1.at_ H3.out.2.2.1 i _ HX.out).2.2.2.2.1
            have d4 := cell_fr0 q1 (H3.out.1.at_ H3.out.2.2.1 i _ HX.out).2.2.2.2.2
            clear q1
            go_wp2
            go_roundg (N - (i + 1))
            case measure => omega
            case rel => exact ⟨i + 1, l3.set i ⟨2, 0, 0, 0, 0⟩, by omega, rfl, by go_num, hid (HST.out w1 Q1.out)⟩
           ·have HO := hid e9
            have HO8 := hid e8
            go_wp2_with fail
            refine HC.out.mono ?_
            rintro r w1 ⟨rfl, q1⟩
            have Q1 := hid q1
            replace c0 := cell_fr0 q1 c0
            clear q1
            go_wp2
            go_roundg (N - (i + 1))
            case measure => omega
            case rel => exact ⟨i + 1, l3, by omega, rfl, by go_num, hid ⟨H3.out.1.fr Q1.out, H3.out.2.1, H3.out.2.2.1, by
             rcases H3.out.2.2.2 with h | h
             ·exact .inl h
             ·refine .inr (fun j x hj hx => ?_)
              by_cases hij : j < i
              ·exact h j x hij hx
              ·obtain rfl : j = i := by omega
               have hx' := HX.out
               rw [hx] at hx'
               cases hx'
               have a9 := HO.out
               have a8 := HO8.out
               simp at a9 a8
               exact ⟨by show op ≠ 8; omega, by show op ≠ 9; omega⟩⟩⟩
         ·obtain rfl : i = N := by omega
          have HE : Hid (pcheckE l3 = 0) := hid (by
           rcases H3.out.2.2.2 with h | h
           ·exact h
           ·refine pre_check l3 (by have := H3.out.2.1; omega) H3.out.2.2.1 (fun x hx => ?_)
            obtain ⟨j, hj, rfl⟩ := List.mem_iff_getElem.1 hx
            exact h j _ (by have := H3.out.2.1; omega) (List.getElem?_eq_getElem hj))
          go_wp2
          go_ret
          exact ⟨_, l3, rfl, H3.out.1, by have := H3.out.2.1; omega, by have := H3.out.2.1; omega, fun x hx => (H3.out.2.2.1 x hx).fits, HE.out⟩
       ·obtain ⟨bd, rfl⟩ : ∃ q : Nat, bad = q := ⟨bad.toNat, by omega⟩
        rcases HS3.out with hz | ⟨g3, rfl, hcap3, hold⟩
        ·omega
        have z0 := HJ.out.1.frozen (bd * 5)
        have z1 := HJ.out.1.frozen (bd * 5 + 1)
        have z2 := HJ.out.1.frozen (bd * 5 + 2)
        have z3 := HJ.out.1.frozen (bd * 5 + 3)
        have z4 := HJ.out.1.frozen (bd * 5 + 4)
        have hgs : g3 < wx.heap.size := HJ.out.1.1.lt g3 rfl
        obtain ⟨x, hx⟩ : ∃ x, l2[bd]? = some x := ⟨_, List.getElem?_eq_getElem (by have := HJ.out.2.1; omega)⟩
        obtain ⟨-, d0, d1, d2, d3, d4⟩ := HJ.out.1.at_ HJ.out.2.2 bd x hx
        clear hx
        go_wp2
        have hlt2 := HL.out
        go_roundg (40 - (j + 1))
        case measure => omega
        case rel => exact ⟨j + 1, l2.set bd ⟨2, 0, 0, 0, 0⟩, by omega, rfl, by go_num, hid ⟨HJ.out.1.set bd (by have := HJ.out.2.1; omega) ⟨2, 0, 0, 0, 0⟩, by rw [List.length_set]; exact HJ.out.2.1, pre_set HJ.out.2.2 bd⟩⟩
    ·obtain rfl : j = 40 := by omega
     go_wp2
     go_loopg [11, 126] N (fun G u11 u126 wr => ∃ (i : Nat) (l3 : List Ins), i <= N /\ G = N - i /\ u126 = .int .i64 i /\ Hid (PTold w wr (.slice a3 N c3) l3 /\ l3.length = N /\ (∀ x ∈ l3, Pre x) /\ (pcheckE l3 = 0 \/ ∀ j x, j < i -> l3[j]? = some x -> x.op ≠ 8 /\ x.op ≠ 9)))
     case atStart => exact ⟨0, l2, Nat.zero_le _, rfl, rfl, hid ⟨H2.out.1, H2.out.2.1, H2.out.2.2, .inr (fun j x hj => by omega)⟩⟩
     case round =>
      obtain ⟨i, l3, hi, rfl, rfl, H3⟩ := hrel
      by_cases hlt3 : i < N
      ·rcases HS3.out with hz | ⟨g3, rfl, hcap3, hold⟩
       ·omega
       have HC := hid (pcheck_any l3 _ wr (by have := H3.out.2.1; omega) (H3.out.1.sees H3.out.2.2.1))
       have hle := checkE_le l3
       obtain ⟨x, hx⟩ : ∃ x, l3[i]? = some x := ⟨_, List.getElem?_eq_getElem (by have := H3.out.2.1; omega)⟩
       have hat := H3.out.1.at_ H3.out.2.2.1
       obtain ⟨hf, c0, -, -, -, -⟩ := hat i x hx
       have hop := hf.op
       have HX := hid hx
       clear hat hf hx
       obtain ⟨op, xd, xa, xb, xn⟩ := x
       dsimp only at *
       by_cases hE : pcheckE l3 = 0
       ·rw [hE] at HC
        have HE := hid hE
        clear hE hle
        go_wp2_with fail
        refine HC.out.mono ?_
        rintro r w1 ⟨rfl, q1⟩
        have Q1 := hid q1
        go_wp2
        go_roundg (N - (i + 1))
        case measure => omega
        case rel => exact ⟨i + 1, l3, by omega, rfl, by go_num, hid ⟨H3.out.1.fr Q1.out, H3.out.2.1, H3.out.2.2.1, .inl HE.out⟩⟩
       ·have HN := hid hE
        obtain ⟨E, hEE⟩ : ∃ E, E = pcheckE l3 := ⟨_, rfl⟩
        rw [<- hEE] at HC hE hle
        have e0 : ((E : Int) == 0) = false := by simp; omega
        have e1 : ((E : Int) != 0) = true := by simp; omega
        clear hE hEE
        have store : ∀ w1, Fr (fun _ => False) wr w1 -> PTold w (setIns w1 g3 i ⟨2, 0, 0, 0, 0⟩) (.slice (some ⟨g3, 0, none⟩) N c3) (l3.set i ⟨2, 0, 0, 0, 0⟩) /\ (l3.set i ⟨2, 0, 0, 0, 0⟩).length = N /\ (∀ x ∈ l3.set i ⟨2, 0, 0, 0, 0⟩, Pre x) /\
          (pcheckE (l3.set i ⟨2, 0, 0, 0, 0⟩) = 0 \/ ∀ j x, j < i + 1 -> (l3.set i ⟨2, 0, 0, 0, 0⟩)[j]? = some x -> x.op ≠ 8 /\ x.op ≠ 9) := by
         intro w1 f
         refine ⟨(H3.out.1.fr f).set i (by have := H3.out.2.1; omega) _, by rw [List.length_set]; exact H3.out.2.1, pre_set H3.out.2.2.1 i, .inr (fun j x hj hx => ?_)⟩
         rw [List.getElem?_set] at hx
         by_cases hij : i = j
         ·subst hij
          rw [if_pos rfl, if_pos (by have := H3.out.2.1; omega)] at hx
          cases hx
          exact ⟨by decide, by decide⟩
         ·rw [if_neg hij] at hx
          rcases H3.out.2.2.2 with h | h
          ·exact absurd h HN.out
          ·exact h j x (by omega) hx
        have HST := hid store
        clear store
        rcases op_cases op with rfl | rfl | ⟨e9, e8⟩
        ·go_wp2_with fail
         refine HC.out.mono ?_
         rintro r w1 ⟨rfl, q1⟩
         have Q1 := hid q1
         replace c0 := cell_fr0 q1 c0
         have z0 := (H3.out.1.fr q1).frozen (i * 5)
         have z1 := (H3.out.1.fr q1).frozen (i * 5 + 1)
         have z2 := (H3.out.1.fr q1).frozen (i * 5 + 2)
         have z3 := (H3.out.1.fr q1).frozen (i * 5 + 3)
         have z4 := (H3.out.1.fr q1).frozen (i * 5 + 4)
         have hgs : g3 < w1.heap.size := (H3.out.1.fr q1).1.lt g3 rfl
         have d1 := cell_fr0 q1 (H3.out.1.at_ H3.out.2.2.1 i _ HX.out).2.2.1
         have d2 := cell_fr0 q1 (H3.out.1.at_ H3.out.2.2.1 i _ HX.out).2.2.2.1
         have d3 := cell_fr0 q1 (H3.out.1.at_ H3.out.2.2.1 i _ HX.out).2.2.2.2.1
         have d4 := cell_fr0 q1 (H3.out.1.at_ H3.out.2.2.1 i _ HX.out).2.2.2.2.2
         clear q1
         go_wp2
         go_roundg (N - (i + 1))
         case measure => omega
         case rel => exact ⟨i + 1, l3.set i ⟨2, 0, 0, 0, 0⟩, by omega, rfl, by go_num, hid (HST.out w1 Q1.out)⟩
        ·go_wp2_with fail
         refine HC.out.mono ?_
         rintro r w1 ⟨rfl, q1⟩
         have Q1 := hid q1
         replace c0 := cell_fr0 q1 c0
         have z0 := (H3.out.1.fr q1).frozen (i * 5)
         have z1 := (H3.out.1.fr q1).frozen (i * 5 + 1)
         have z2 := (H3.out.1.fr q1).frozen (i * 5 + 2)
         have z3 := (H3.out.1.fr q1).frozen (i * 5 + 3)
         have z4 := (H3.out.1.fr q1).frozen (i * 5 + 4)
         have hgs : g3 < w1.heap.size := (H3.out.1.fr q1).1.lt g3 rfl
         have d1 := cell_fr0 q1 (H3.out.1.at_ H3.out.2.2.1 i _ HX.out).2.2.1
         have d2 := cell_fr0 q1 (H3.out.1.at_ H3.out.2.2.1 i _ HX.out).2.2.2.1
         have d3 := cell_fr0 q1 (H3.out.1.at_ H3.out.2.2.1 i _ HX.out).2.2.2.2.1
         have d4 := cell_fr0 q1 (H3.out.1.at_ H3.out.2.2.1 i _ HX.out).2.2.2.2.2
         clear q1
         go_wp2
         go_roundg (N - (i + 1))
         case measure => omega
         case rel => exact ⟨i + 1, l3.set i ⟨2, 0, 0, 0, 0⟩, by omega, rfl, by go_num, hid (HST.out w1 Q1.out)⟩
        ·have HO := hid e9
         have HO8 := hid e8
         go_wp2_with fail
         refine HC.out.mono ?_
         rintro r w1 ⟨rfl, q1⟩
         have Q1 := hid q1
         replace c0 := cell_fr0 q1 c0
         clear q1
         go_wp2
         go_roundg (N - (i + 1))
         case measure => omega
         case rel => exact ⟨i + 1, l3, by omega, rfl, by go_num, hid ⟨H3.out.1.fr Q1.out, H3.out.2.1, H3.out.2.2.1, by
          rcases H3.out.2.2.2 with h | h
          ·exact .inl h
          ·refine .inr (fun j x hj hx => ?_)
           by_cases hij : j < i
           ·exact h j x hij hx
           ·obtain rfl : j = i := by omega
            have hx' := HX.out
            rw [hx] at hx'
            cases hx'
            have a9 := HO.out
            have a8 := HO8.out
            simp at a9 a8
            exact ⟨by show op ≠ 8; omega, by show op ≠ 9; omega⟩⟩⟩
      ·obtain rfl : i = N := by omega
       have HE : Hid (pcheckE l3 = 0) := hid (by
        rcases H3.out.2.2.2 with h | h
        ·exact h
        ·refine pre_check l3 (by have := H3.out.2.1; omega) H3.out.2.2.1 (fun x hx => ?_)
         obtain ⟨j, hj, rfl⟩ := List.mem_iff_getElem.1 hx
         exact h j _ (by have := H3.out.2.1; omega) (List.getElem?_eq_getElem hj))
       go_wp2
       go_ret
       exact ⟨_, l3, rfl, H3.out.1, by have := H3.out.2.1; omega, by have := H3.out.2.1; omega, fun x hx => (H3.out.2.2.1 x hx).fits, HE.out⟩
end
section
open Go.ChangeShapes Go.WideShapes Go.ChangeAt Go.RowKit
set_option maxRecDepth 100000

theorem cellsOf_sm : Try.prog.cellsOf 103 = 6 := by kernel_rfl
theorem pcellsOf_byte : Try.prog.cellsOf 5 = 1 := by kernel_rfl
theorem cellsOf_half : Try.prog.cellsOf 77 = 1 := by kernel_rfl
theorem cellsOf_bool : Try.prog.cellsOf 4 = 1 := by kernel_rfl

section
variable {H : Type} (enc : TypeId × Value -> H) (w : World)

theorem pbyte_reads {fuel : Nat} {cs : List Value} {x : DataW H × List MemPlace} (h : DataW.trod enc Try.prog w 0 (fun _ => true) true fuel 5 cs = some x) : ∃ k : Nat, k <= 255 /\ cs = [.int .u8 k] := by
 obtain ⟨n, hw, rfl⟩ := pint_reads enc w Try.underlying5 h
 have := bounds_u8 hw
 exact ⟨n.toNat, by omega, by rw [Int.toNat_of_nonneg this.1]⟩

set_option maxRecDepth 100000 in
theorem sm_shows {fuel : Nat} {cs : List Value} {x : DataW H × List MemPlace} (h : DataW.trod enc Try.prog w 0 (fun _ => true) true fuel 103 cs = some x) :
  ∃ s : Sm, s.Fits /\ cs = [.int .u8 s.op, .int .u8 s.dst, .int .u8 s.a, .int .u8 s.b, .int .i16 s.n, .bool s.raw] := by
 obtain ⟨xs, n, rfl, rfl, hl, hlen, hf⟩ := DataW.trod_struct Try.underlying103 h
 rw [cellsOf_sm] at hl
 match cs, hl with
 | [c0, c1, c2, c3, c4, c5], _ =>
 have f0 : DataW.trod enc Try.prog w 0 (fun _ => true) true n 5 (List.take (Try.prog.cellsOf 5) (List.drop 0 [c0, c1, c2, c3, c4, c5])) = xs[0]? := hf 0 _ rfl
 have f1 : DataW.trod enc Try.prog w 0 (fun _ => true) true n 5 (List.take (Try.prog.cellsOf 5) (List.drop 1 [c0, c1, c2, c3, c4, c5])) = xs[1]? := hf 1 _ rfl
 have f2 : DataW.trod enc Try.prog w 0 (fun _ => true) true n 5 (List.take (Try.prog.cellsOf 5) (List.drop 2 [c0, c1, c2, c3, c4, c5])) = xs[2]? := hf 2 _ rfl
 have f3 : DataW.trod enc Try.prog w 0 (fun _ => true) true n 5 (List.take (Try.prog.cellsOf 5) (List.drop 3 [c0, c1, c2, c3, c4, c5])) = xs[3]? := hf 3 _ rfl
 have f4 : DataW.trod enc Try.prog w 0 (fun _ => true) true n 77 (List.take (Try.prog.cellsOf 77) (List.drop 4 [c0, c1, c2, c3, c4, c5])) = xs[4]? := hf 4 _ rfl
 have f5 : DataW.trod enc Try.prog w 0 (fun _ => true) true n 4 (List.take (Try.prog.cellsOf 4) (List.drop 5 [c0, c1, c2, c3, c4, c5])) = xs[5]? := hf 5 _ rfl
 have hl3 : xs.length = 6 := hlen
 rw [List.getElem?_eq_getElem (by omega)] at f0 f1 f2 f3 f4 f5
 simp only [pcellsOf_byte, cellsOf_half, cellsOf_bool, List.drop_zero, List.drop_succ_cons, List.take_succ_cons, List.take_zero] at f0 f1 f2 f3 f4 f5
 obtain ⟨k0, h0, e⟩ := pbyte_reads enc w f0
 simp at e
 subst e
 obtain ⟨k1, h1, e⟩ := pbyte_reads enc w f1
 simp at e
 subst e
 obtain ⟨k2, h2, e⟩ := pbyte_reads enc w f2
 simp at e
 subst e
 obtain ⟨k3, h3, e⟩ := pbyte_reads enc w f3
 simp at e
 subst e
 obtain ⟨k4, h4, e⟩ := pint_reads enc w Try.underlying77 f4
 simp at e
 subst e
 obtain ⟨k5, e⟩ := pbool_reads enc w Try.underlying4 f5
 simp at e
 subst e
 have := bounds_i16 h4
 exact ⟨⟨k0, k1, k2, k3, k4, k5⟩, ⟨h0, h1, h2, h3, this.1, this.2⟩, rfl⟩

theorem smalls_shows {fuel : Nat} {cs : List Value} {x : DataW H × List MemPlace} (h : DataW.trod enc Try.prog w 0 (fun _ => true) true fuel 25 cs = some x) : ∃ l v, cs = [v] /\ SmSees w v l := by
 rcases slice_each enc w Try.underlying25 cellsOf_sm (by omega) h with ⟨a, rfl⟩ | ⟨a, len, cap, n', hn, rfl, hle, hc, rfl | ⟨b, o, rfl, each⟩⟩
 ·exact ⟨[], _, rfl, by unfold maxLen; simp, .inl ⟨rfl, _, _, rfl⟩⟩
 ·exact ⟨[], _, rfl, by unfold maxLen; simp, .inl ⟨rfl, _, _, rfl⟩⟩
 ·have ch : ∀ i, ∃ s : Sm, i < len -> s.Fits /\ w.cell? ⟨b, o + i * 6, none⟩ = some (.int .u8 s.op) /\ w.cell? ⟨b, o + i * 6 + 1, none⟩ = some (.int .u8 s.dst) /\ w.cell? ⟨b, o + i * 6 + 2, none⟩ = some (.int .u8 s.a) /\
    w.cell? ⟨b, o + i * 6 + 3, none⟩ = some (.int .u8 s.b) /\ w.cell? ⟨b, o + i * 6 + 4, none⟩ = some (.int .i16 s.n) /\ w.cell? ⟨b, o + i * 6 + 5, none⟩ = some (.bool s.raw) := by
   intro i
   by_cases hi : i < len
   ·obtain ⟨cs', y, h3, hcell⟩ := each i hi
    obtain ⟨s, hs, rfl⟩ := sm_shows enc w h3
    exact ⟨s, fun _ => ⟨hs, hcell 0 _ rfl (by omega), hcell 1 _ rfl (by omega), hcell 2 _ rfl (by omega), hcell 3 _ rfl (by omega), hcell 4 _ rfl (by omega), hcell 5 _ rfl (by omega)⟩⟩
   ·exact ⟨⟨0, 0, 0, 0, 0, false⟩, fun h => absurd h hi⟩
  obtain ⟨of, hof⟩ := Classical.axiomOfChoice ch
  have el : ((List.range len).map of).length = len := by simp
  refine ⟨(List.range len).map of, _, rfl, by rw [el]; omega, .inr ⟨b, o, cap, by rw [el], by rw [el]; exact hle, fun i t hi => ?_⟩⟩
  rw [List.getElem?_map] at hi
  by_cases hlt : i < len
  ·rw [List.getElem?_range hlt] at hi
   cases hi
   exact hof i hlt
  ·rw [List.getElem?_eq_none (by simpa using hlt)] at hi
   cases hi
end
end
section
def leafK (q : Nat) : KT := .mk q 0 [] 0 (fun _ => .nil)

def numT (x : Int) : VT := .mk x 0 [] 0 (fun _ => .nil)

theorem leaf_shows (q : Nat) (hq : q <= 255) (R : Nat -> Prop) (w : World) : Shows R w (leafK q) (.agg #[.int .u8 q, .int .i64 0, .slice none 0 0, .slice none 0 0]) :=
 ⟨.slice none 0 0, .slice none 0 0, rfl, hq, by omega, texts_none _ _ _ _, .inl ⟨rfl, _, _, rfl⟩⟩

theorem num_shows (x : Int) (hx : -9223372036854775808 <= x /\ x <= 9223372036854775807) (R : Nat -> Prop) (w : World) : VShows R w (numT x) (.agg #[.int .i64 x, .float .f64 0, .string ⟨#[]⟩, .slice none 0 0]) :=
 ⟨.slice none 0 0, rfl, ⟨hx.1, hx.2, by decide, by simp [maxLen], by decide⟩, .inl ⟨rfl, _, _, rfl⟩⟩

theorem leaf_has (q : Nat) (hq : q < 4) (lv : Nat) (h : 1 <= lv) : hasE (leafK q) lv = true := by
 unfold leafK hasE
 rw [if_neg (by omega)]
 simp

theorem leaf_val1 (x : Int) : isVal (leafK 1) (numT x) = decide (0 <= x /\ x <= 65535) := by
 unfold isVal
 rw [leaf_has 1 (by decide) 20 (by decide)]
 simp [leafK, numT, fitsE, same_zero, canon0]

theorem leaf_val0 (x : Int) : isVal (leafK 0) (numT x) = decide (0 <= x /\ x <= 1) := by
 unfold isVal
 rw [leaf_has 0 (by decide) 20 (by decide)]
 simp [leafK, numT, fitsE, same_zero, canon0]

theorem leaf_flat (q : Nat) (hq : q < 3) (x : Int) : flatE (leafK q) (numT x) 64 = [x] := by
 unfold flatE
 have : flE (leafK q) (numT x) = [x] := by
  rcases (by omega : q = 0 \/ q = 1 \/ q = 2) with rfl | rfl | rfl <;> rfl
 rw [this]
 rfl

theorem leaf_build (l : List Int) : BuildE l (leafK 0) = numT (numE l 0 % 2) := by
 have hs : (surveyE (leafK 0) 1000 0).1 = true := by
  rw [survey_ok (leafK 0) (leaf_good 0 (by decide) _) 1000 0 (leaf_has 0 (by decide) 1000 (by decide)) (by simp [szK, leafK])]
 unfold BuildE
 rw [if_pos hs]
 rfl

theorem leaf_build_val (l : List Int) : isVal (leafK 0) (BuildE l (leafK 0)) = true := by
 rw [leaf_build, leaf_val0]
 simp
 omega

theorem leaf_cost (q : Nat) (hq : q < 5) : costE (leafK q) <= 100000 := by
 simp [leafK, costE]
 split <;> simp

set_option maxRecDepth 100000 in
theorem psame_any (R : Nat -> Prop) (a b : OC) (va vb : Value) (w : World) (ha : OShows R w a va) (hb : OShows R w b vb) (hsz : szV a.v <= 100000) :
  Calls Try.prog 13 #[va, vb] w fun e w' => e = .returned (.bool (sameO a b)) /\ Fr (fun _ => False) w w' := by
 obtain ⟨x0, x1, x2, x3, rfl, hx⟩ := ha
 obtain ⟨y0, y1, y2, y3, rfl, hy⟩ := hb
 obtain ⟨ae, an, av⟩ := a
 obtain ⟨be, bn, bv⟩ := b
 simp only at hx hy hsz
 obtain ⟨w1, hw1⟩ : ∃ w1, w1 = (w.alloc (.cells #[.int .i64 ae, .int .i64 an, x0, x1, x2, x3] 65)).alloc (.cells #[.int .i64 be, .int .i64 bn, y0, y1, y2, y3] 65) := ⟨_, rfl⟩
 have f1 : Fr (fun _ => False) w w1 := by rw [hw1]; exact ((Fr.refl _ _).alloc _).alloc _
 have HS := hid (vsame_any R av bv _ _ w1 (VShows.fr f1 fid2 _ _ hx) (VShows.fr f1 fid2 _ _ hy) hsz)
 have F1 := hid f1
 clear hx hy f1
 by_cases he : ae = be
 ·subst he
  by_cases hn : an = bn
  ·subst hn
   have hE : Hid (sameO ⟨ae, an, av⟩ ⟨ae, an, bv⟩ = sameV av bv) := hid (by simp [sameO])
   rw [hE.out]
   go_enter Try.func13, Try.ntmps13
   go_wp2_with fail
   rw [<- hw1]
   refine HS.out.mono ?_
   rintro e w2 ⟨rfl, f2⟩
   go_wp2
   go_ret
   exact ⟨rfl, F1.out.trans f2 fid2⟩
  ·have hE : Hid (sameO ⟨ae, an, av⟩ ⟨ae, bn, bv⟩ = false) := hid (by simp [sameO, hn])
   rw [hE.out]
   have h1 : (an == bn) = false := by simpa using hn
   clear hn
   go_enter Try.func13, Try.ntmps13
   go_wp2_with fail
   go_ret
   exact ⟨rfl, ((Fr.refl _ _).alloc _).alloc _⟩
 ·have hE : Hid (sameO ⟨ae, an, av⟩ ⟨be, bn, bv⟩ = false) := hid (by simp [sameO, he])
  rw [hE.out]
  have h1 : ((ae : Int) == (be : Int)) = false := by simp; omega
  clear he
  go_enter Try.func13, Try.ntmps13
  go_wp2_with fail
  go_ret
  exact ⟨rfl, ((Fr.refl _ _).alloc _).alloc _⟩
end
section
structure S11 where
 takes : KN
 answers : KN
 prog : List Sm
 st : Nat -> Int
 args : List Int

def ArgsAt (w : World) (l : List Int) (v : Value) : Prop := SeesL w v (l.map (Value.int .i64)) /\ ∀ n ∈ l, -9223372036854775808 <= n /\ n <= 9223372036854775807

theorem ArgsAt.fr {w w' : World} {l : List Int} {v : Value} (h : ArgsAt w l v) (f : Fr (fun _ => False) w w') : ArgsAt w' l v := by
 refine ⟨?_, h.2⟩
 rcases h.1 with h1 | ⟨g, o, cap, e, hle, hc⟩
 ·exact .inl h1
 ·exact .inr ⟨g, o, cap, e, hle, fun j x hj => cell_fr0 f (hc j x hj)⟩

theorem ArgsAt.nums {w : World} {l : List Int} {v : Value} (h : ArgsAt w l v) (hl : l.length <= 1000) : Nums (fun _ => True) w l v := by
 refine ⟨hl, h.2, ?_⟩
 rcases h.1 with ⟨h0, a, c, rfl⟩ | ⟨g, o, cap, e, hle, hc⟩
 ·exact .inl ⟨List.map_eq_nil_iff.1 h0, a, c, rfl⟩
 ·refine .inr ⟨g, o, cap, trivial, by rw [e, List.length_map], by rw [List.length_map] at hle; exact hle, fun j x hj => hc j (.int .i64 x) (by simp [hj])⟩

structure S11Shows (w : World) (x : S11) (a0 a1 a2 b0 b1 b2 pv av : Value) : Prop where
 t : NShows w x.takes (.agg #[a0, a1, a2])
 a : NShows w x.answers (.agg #[b0, b1, b2])
 p : SmSees w pv x.prog
 s : ∀ k, k < 8 -> -9223372036854775808 <= x.st k /\ x.st k <= 9223372036854775807
 v : ArgsAt w x.args av

theorem S11Shows.fr {w w' : World} {x : S11} {a0 a1 a2 b0 b1 b2 pv av : Value} (h : S11Shows w x a0 a1 a2 b0 b1 b2 pv av) (f : Fr (fun _ => False) w w') : S11Shows w' x a0 a1 a2 b0 b1 b2 pv av :=
 ⟨NShows.fr f _ _ h.t, NShows.fr f _ _ h.a, h.p.fr0 f, h.s, h.v.fr f⟩

def s11C (s : Nat -> Int) (a0 a1 a2 b0 b1 b2 pv av : Value) : Array Value :=
 #[a0, a1, a2, b0, b1, b2, pv, .int .i64 (s 0), .int .i64 (s 1), .int .i64 (s 2), .int .i64 (s 3), .int .i64 (s 4), .int .i64 (s 5), .int .i64 (s 6), .int .i64 (s 7), av]

def PG (l : List Ins) : Prop := l.length <= 16 /\ (∀ x ∈ l, x.Fits) /\ pcheckE l = 0

def body0 : Array Value := #[.int .u8 0, .int .i64 0, .slice none 0 0, .slice none 0 0, .int .u8 0, .int .i64 0, .slice none 0 0, .slice none 0 0, .slice none 0 0]

def BOff (w : World) (st : Nat -> Option Value) (k : Nat) : Prop := st 10 ≠ some (pptr k) /\ w.heap.size <= k

structure BdA (w : World) (T A : KT) (st : Nat -> Option Value) (wx : World) : Prop where
 fr : Fr (fun _ => False) w wx
 t2 : ∀ v, st 2 = some v -> Shows (BOff w st) wx T v
 t5 : ∀ v, st 5 = some v -> Shows (BOff w st) wx A v
 t8 : ∀ v, st 8 = some v -> ∃ l, PG l /\ PSees wx v l /\ ∀ k, v.ownBlock = some k -> BOff w st k /\ k < wx.heap.size
 t9 : ∀ v, st 9 = some v -> ∃ x0 x1 x2 x3 y0 y1 y2 y3 p, st 2 = some (.agg #[x0, x1, x2, x3]) /\ st 5 = some (.agg #[y0, y1, y2, y3]) /\ st 8 = some p /\ v = .agg #[x0, x1, x2, x3, y0, y1, y2, y3, p]
 t10 : ∀ v, st 10 = some v -> ∃ g, v = pptr g /\ w.heap.size <= g /\ wx.heap[g]? = some (.cells body0 40 (0, 0))

def BdIn (w : World) (T A : KT) (g : Nat) (wx : World) : Prop :=
 Fr (fun _ => False) w wx /\ w.heap.size <= g /\ ∃ x0 x1 x2 x3 y0 y1 y2 y3 p l, wx.heap[g]? = some (.cells #[x0, x1, x2, x3, y0, y1, y2, y3, p] 40 (0, 0)) /\
  Shows (fun k => k ≠ g /\ w.heap.size <= k) wx T (.agg #[x0, x1, x2, x3]) /\ Shows (fun k => k ≠ g /\ w.heap.size <= k) wx A (.agg #[y0, y1, y2, y3]) /\ PG l /\ PSees wx p l /\ ∀ k, p.ownBlock = some k -> k ≠ g /\ w.heap.size <= k

def BdS (w : World) (T A : KT) (st : Nat -> Option Value) (wx : World) : Prop := match st 11 with
 | none => BdA w T A st wx
 | some _ => ∃ g, st 10 = some (pptr g) /\ BdIn w T A g wx

section
variable {w wx wy : World} {T A : KT} {st : Nat -> Option Value}

theorem BdS.a (h : BdS w T A st wx) (h11 : st 11 = none) : BdA w T A st wx := by
 unfold BdS at h; rw [h11] at h; exact h

theorem BdA.toS (h : BdA w T A st wx) (h11 : st 11 = none) : BdS w T A st wx := by
 unfold BdS; rw [h11]; exact h

theorem BdS.fr (h : BdS w T A st wx) : Fr (fun _ => False) w wx := by
 unfold BdS at h
 split at h
 ·exact h.fr
 ·obtain ⟨g, _, h1, _⟩ := h; exact h1

theorem BdA.later (h : BdA w T A st wx) (f : Fr (fun _ => False) wx wy) : BdA w T A st wy where
 fr := h.fr.trans f fid2
 t2 := fun v hv => Shows.fr f fid2 _ _ (h.t2 v hv)
 t5 := fun v hv => Shows.fr f fid2 _ _ (h.t5 v hv)
 t8 := fun v hv => by
  obtain ⟨l, h1, h2, h3⟩ := h.t8 v hv
  exact ⟨l, h1, h2.fr f fid2, fun k hk => ⟨(h3 k hk).1, Nat.lt_of_lt_of_le (h3 k hk).2 f.size⟩⟩
 t9 := h.t9
 t10 := fun v hv => by
  obtain ⟨g, e, hg, hc⟩ := h.t10 v hv
  exact ⟨g, e, hg, pbox_kept hc f (fun h => h)⟩

theorem BdA.new (h : BdA w T A st wx) {k : Nat} (hk : wx.heap.size <= k) : BOff w st k := by
 refine ⟨fun e => ?_, Nat.le_trans h.fr.size hk⟩
 obtain ⟨g, eg, hg, hc⟩ := h.t10 _ e
 have := pptr_inj eg
 have := lt_of_block hc
 omega

theorem boff_upd (i : Nat) (v : Value) (hi : i ≠ 10) (k : Nat) : BOff w (pupd st i v) k ↔ BOff w st k := by
 unfold BOff
 rw [pupd_ne _ _ _ _ (fun e => hi e.symm)]

theorem boff_fun (i : Nat) (v : Value) (hi : i ≠ 10) : BOff w (pupd st i v) = BOff w st := funext fun k => propext (boff_upd i v hi k)

theorem BdA.call2 (h : BdA w T A st wx) (f : Fr (fun _ => False) wx wy) (h9 : st 9 = none) {v : Value} (hv : Shows (fun k => wx.heap.size <= k) wy T v) : BdA w T A (pupd st 2 v) wy :=
 have hl := h.later f
 {fr := hl.fr
  t2 := fun u hu => by
   have e : v = u := by simpa [pupd] using hu
   subst e
   rw [boff_fun 2 _ (by decide)]
   exact Shows.mono (fun k _ hk => h.new hk) _ _ hv
  t5 := fun u hu => by rw [boff_fun 2 _ (by decide)]; exact hl.t5 u (by simpa [pupd] using hu)
  t8 := fun u hu => by rw [boff_fun 2 _ (by decide)]; exact hl.t8 u (by simpa [pupd] using hu)
  t9 := fun u hu => by
   have e : st 9 = some u := by simpa [pupd] using hu
   rw [h9] at e; cases e
  t10 := fun u hu => hl.t10 u (by simpa [pupd] using hu) }

theorem BdA.call5 (h : BdA w T A st wx) (f : Fr (fun _ => False) wx wy) (h9 : st 9 = none) {v : Value} (hv : Shows (fun k => wx.heap.size <= k) wy A v) : BdA w T A (pupd st 5 v) wy :=
 have hl := h.later f
 {fr := hl.fr
  t2 := fun u hu => by rw [boff_fun 5 _ (by decide)]; exact hl.t2 u (by simpa [pupd] using hu)
  t5 := fun u hu => by
   have e : v = u := by simpa [pupd] using hu
   subst e
   rw [boff_fun 5 _ (by decide)]
   exact Shows.mono (fun k _ hk => h.new hk) _ _ hv
  t8 := fun u hu => by rw [boff_fun 5 _ (by decide)]; exact hl.t8 u (by simpa [pupd] using hu)
  t9 := fun u hu => by
   have e : st 9 = some u := by simpa [pupd] using hu
   rw [h9] at e; cases e
  t10 := fun u hu => hl.t10 u (by simpa [pupd] using hu) }

theorem BdA.call8 (h : BdA w T A st wx) (h9 : st 9 = none) {v : Value} {l : List Ins} (hg : PG l) (ht : PTold wx wy v l) : BdA w T A (pupd st 8 v) wy :=
 have hl := h.later ht.2.1
 {fr := hl.fr
  t2 := fun u hu => by rw [boff_fun 8 _ (by decide)]; exact hl.t2 u (by simpa [pupd] using hu)
  t5 := fun u hu => by rw [boff_fun 8 _ (by decide)]; exact hl.t5 u (by simpa [pupd] using hu)
  t8 := fun u hu => by
   have e : v = u := by simpa [pupd] using hu
   subst e
   rw [boff_fun 8 _ (by decide)]
   exact ⟨l, hg, ht.1.sees hg.2.1, fun k hk => ⟨h.new (ht.2.2 k hk), ht.1.lt k hk⟩⟩
  t9 := fun u hu => by
   have e : st 9 = some u := by simpa [pupd] using hu
   rw [h9] at e; cases e
  t10 := fun u hu => hl.t10 u (by simpa [pupd] using hu) }

theorem BdA.build9 (h : BdA w T A st wx) {x0 x1 x2 x3 y0 y1 y2 y3 p : Value} (h2 : st 2 = some (.agg #[x0, x1, x2, x3])) (h5 : st 5 = some (.agg #[y0, y1, y2, y3])) (h8 : st 8 = some p) : BdA w T A (pupd st 9 (.agg #[x0, x1, x2, x3, y0, y1, y2, y3, p])) wx :=
 {fr := h.fr
  t2 := fun u hu => by rw [boff_fun 9 _ (by decide)]; exact h.t2 u (by simpa [pupd] using hu)
  t5 := fun u hu => by rw [boff_fun 9 _ (by decide)]; exact h.t5 u (by simpa [pupd] using hu)
  t8 := fun u hu => by rw [boff_fun 9 _ (by decide)]; exact h.t8 u (by simpa [pupd] using hu)
  t9 := fun u hu => by
   have e : Value.agg #[x0, x1, x2, x3, y0, y1, y2, y3, p] = u := by simpa [pupd] using hu
   subst e
   exact ⟨x0, x1, x2, x3, y0, y1, y2, y3, p, by simpa [pupd] using h2, by simpa [pupd] using h5, by simpa [pupd] using h8, rfl⟩
  t10 := fun u hu => h.t10 u (by simpa [pupd] using hu) }

theorem boff_new {k : Nat} (h : BOff w st k) (hk : k < wx.heap.size) : BOff w (pupd st 10 (pptr wx.heap.size)) k := by
 refine ⟨fun e => ?_, h.2⟩
 have e' : pptr wx.heap.size = pptr k := by simpa [pupd] using e
 have := pptr_inj e'
 omega

theorem BdA.alloc10 (h : BdA w T A st wx) : BdA w T A (pupd st 10 (pptr wx.heap.size)) (wx.alloc (.cells body0 40)) :=
 have f : Fr (fun _ => False) wx (wx.alloc (.cells body0 40)) := (Fr.refl _ _).alloc _
 have hl := h.later f
 {fr := hl.fr
  t2 := fun u hu => Shows.fr f fid2 _ _ (Shows.mono (fun k hk h1 => boff_new h1 hk) _ _ (h.t2 u (by simpa [pupd] using hu)))
  t5 := fun u hu => Shows.fr f fid2 _ _ (Shows.mono (fun k hk h1 => boff_new h1 hk) _ _ (h.t5 u (by simpa [pupd] using hu)))
  t8 := fun u hu => by
   obtain ⟨l, h1, h2, h3⟩ := h.t8 u (by simpa [pupd] using hu)
   exact ⟨l, h1, h2.fr f fid2, fun k hk => ⟨boff_new (h3 k hk).1 (h3 k hk).2, Nat.lt_of_lt_of_le (h3 k hk).2 f.size⟩⟩
  t9 := fun u hu => by
   obtain ⟨x0, x1, x2, x3, y0, y1, y2, y3, p, e2, e5, e8, e⟩ := h.t9 u (by simpa [pupd] using hu)
   exact ⟨x0, x1, x2, x3, y0, y1, y2, y3, p, by simpa [pupd] using e2, by simpa [pupd] using e5, by simpa [pupd] using e8, e⟩
  t10 := fun u hu => by
   have e : pptr wx.heap.size = u := by simpa [pupd] using hu
   subst e
   exact ⟨_, rfl, h.fr.size, heap_alloc_new _ _⟩ }

theorem BdA.store11 (h : BdA w T A st wx) {g : Nat} {x0 x1 x2 x3 y0 y1 y2 y3 p u : Value} (h2 : st 2 = some (.agg #[x0, x1, x2, x3])) (h5 : st 5 = some (.agg #[y0, y1, y2, y3])) (h8 : st 8 = some p) (h10 : st 10 = some (pptr g)) :
  BdS w T A (pupd st 11 u) (wx.setRow g #[x0, x1, x2, x3, y0, y1, y2, y3, p]) := by
 unfold BdS
 rw [pupd_at]
 obtain ⟨g', eg, hg, hc⟩ := h.t10 _ h10
 obtain rfl := pptr_inj eg
 have fs : Fr (fun k => k = g) wx (wx.setRow g #[x0, x1, x2, x3, y0, y1, y2, y3, p]) := Fr.setRow (S := fun k => k = g) (Fr.refl _ _) (fun _ => rfl) _
 obtain ⟨l, hl, hp, hk⟩ := h.t8 _ h8
 have off : ∀ k, BOff w st k -> k ≠ g /\ w.heap.size <= k := fun k hb => ⟨fun e => hb.1 (by rw [e]; exact h10), hb.2⟩
 refine ⟨g, by simpa [pupd] using h10, Fr.new h.fr (fun k hk => by omega) fs, hg, x0, x1, x2, x3, y0, y1, y2, y3, p, l, setRow_heap _ _ _ _ _ _ hc, ?_, ?_, hl, hp.fr fs (fun k hk' e => (off k (hk k hk').1).1 e), fun k hk' => off k (hk k hk').1⟩
 ·exact Shows.fr fs (fun k hk e => hk.1 e) _ _ (Shows.mono (fun k _ hb => off k hb) _ _ (h.t2 _ h2))
 ·exact Shows.fr fs (fun k hk e => hk.1 e) _ _ (Shows.mono (fun k _ hb => off k hb) _ _ (h.t5 _ h5))
end
end
section
open Go.ChangeShapes Go.WideShapes Go.ChangeAt Go.RowKit
set_option maxRecDepth 100000

def S11V (w : World) (x : S11) (v : Value) : Prop := ∃ a0 a1 a2 b0 b1 b2 pv av, v = .agg (s11C x.st a0 a1 a2 b0 b1 b2 pv av) /\ S11Shows w x a0 a1 a2 b0 b1 b2 pv av

theorem cellsOf_s11 : Try.prog.cellsOf 30 = 16 := by kernel_rfl
theorem cellsOf_sms : Try.prog.cellsOf 25 = 1 := by kernel_rfl
theorem cellsOf_i64s : Try.prog.cellsOf 28 = 1 := by kernel_rfl

theorem args_reads {H : Type} (enc : TypeId × Value -> H) (w : World) {fuel : Nat} {cs : List Value} {x : DataW H × List MemPlace} (h : DataW.trod enc Try.prog w 0 (fun _ => true) true fuel 28 cs = some x) : ∃ l v, cs = [v] /\ ArgsAt w l v := by
 rcases slice_each enc w Try.underlying28 cellsOf_int64 (by omega) h with ⟨a, rfl⟩ | ⟨a, len, cap, n', hn, rfl, hle, hc, rfl | ⟨b, o, rfl, each⟩⟩
 ·exact ⟨[], _, rfl, .inl ⟨rfl, _, _, rfl⟩, by simp⟩
 ·exact ⟨[], _, rfl, .inl ⟨rfl, _, _, rfl⟩, by simp⟩
 ·have ch : ∀ i, ∃ n : Int, i < len -> (-9223372036854775808 <= n /\ n <= 9223372036854775807) /\ w.cell? ⟨b, o + i, none⟩ = some (.int .i64 n) := by
   intro i
   by_cases hi : i < len
   ·obtain ⟨cs', y, h3, hcell⟩ := each i hi
    obtain ⟨n, hw, rfl⟩ := pint_reads enc w Try.underlying2 h3
    have hb := bounds_i64 hw
    refine ⟨n, fun _ => ⟨⟨hb.1, hb.2⟩, ?_⟩⟩
    have := hcell 0 _ rfl (by omega)
    rwa [Nat.mul_one, Nat.add_zero] at this
   ·exact ⟨0, fun h => absurd h hi⟩
  obtain ⟨of, hof⟩ := Classical.axiomOfChoice ch
  have el : ((List.range len).map of).length = len := by simp
  refine ⟨(List.range len).map of, _, rfl, .inr ⟨b, o, cap, by rw [List.length_map, el], by rw [List.length_map, el]; exact hle, fun i t hi => ?_⟩, fun n hn => ?_⟩
  ·rw [List.getElem?_map, List.getElem?_map] at hi
   by_cases hlt : i < len
   ·rw [List.getElem?_range hlt] at hi
    cases hi
    exact (hof i hlt).2
   ·rw [List.getElem?_eq_none (by simp; omega)] at hi
    cases hi
  ·obtain ⟨i, hi, rfl⟩ := List.mem_map.1 hn
   exact (hof i (List.mem_range.1 hi)).1

theorem s11_any {H : Type} (enc : TypeId × Value -> H) (w : World) {v : Value} {d : DataW H} {p : List MemPlace} {base : Nat} (hval : Value.okWide Try.prog w .any base 30 v)
  (h : DataW.Trod enc Try.prog w 0 (fun _ => true) true 30 v d p) : ∃ x, S11V w x v := by
 obtain ⟨cs, rfl, _⟩ := okWide_struct Try.underlying30 hval
 obtain ⟨fuel, hf⟩ := h
 obtain ⟨xs, n, rfl, _, hl, hlen, hf⟩ := DataW.trod_struct Try.underlying30 hf
 rw [cellsOf_s11] at hl
 have hcs : (Value.agg cs).cells.toList = cs.toList := rfl
 rw [hcs] at hl hf
 obtain ⟨cs⟩ := cs
 match cs, hl with
 | [c0, c1, c2, c3, c4, c5, c6, c7, c8, c9, c10, c11, c12, c13, c14, c15], _ =>
 have f0 : DataW.trod enc Try.prog w 0 (fun _ => true) true n 24 (List.take (Try.prog.cellsOf 24) (List.drop 0 [c0, c1, c2, c3, c4, c5, c6, c7, c8, c9, c10, c11, c12, c13, c14, c15])) = xs[0]? := hf 0 _ rfl
 have f1 : DataW.trod enc Try.prog w 0 (fun _ => true) true n 24 (List.take (Try.prog.cellsOf 24) (List.drop 3 [c0, c1, c2, c3, c4, c5, c6, c7, c8, c9, c10, c11, c12, c13, c14, c15])) = xs[1]? := hf 1 _ rfl
 have f2 : DataW.trod enc Try.prog w 0 (fun _ => true) true n 25 (List.take (Try.prog.cellsOf 25) (List.drop 6 [c0, c1, c2, c3, c4, c5, c6, c7, c8, c9, c10, c11, c12, c13, c14, c15])) = xs[2]? := hf 2 _ rfl
 have f3 : DataW.trod enc Try.prog w 0 (fun _ => true) true n 27 (List.take (Try.prog.cellsOf 27) (List.drop 7 [c0, c1, c2, c3, c4, c5, c6, c7, c8, c9, c10, c11, c12, c13, c14, c15])) = xs[3]? := hf 3 _ rfl
 have f4 : DataW.trod enc Try.prog w 0 (fun _ => true) true n 28 (List.take (Try.prog.cellsOf 28) (List.drop 15 [c0, c1, c2, c3, c4, c5, c6, c7, c8, c9, c10, c11, c12, c13, c14, c15])) = xs[4]? := hf 4 _ rfl
 have hl5 : xs.length = 5 := hlen
 rw [List.getElem?_eq_getElem (by omega)] at f0 f1 f2 f3 f4
 simp only [cellsOf_node, cellsOf_sms, cellsOf_state, cellsOf_i64s, List.drop_zero, List.drop_succ_cons, List.take_succ_cons, List.take_zero] at f0 f1 f2 f3 f4
 obtain ⟨tk, x0, x1, x2, e0, ht⟩ := node_shows enc w n _ _ f0
 obtain ⟨an, y0, y1, y2, e1, ha⟩ := node_shows enc w n _ _ f1
 obtain ⟨pl, pv, e2, hp⟩ := smalls_shows enc w f2
 obtain ⟨st, hst, e3⟩ := state_reads enc w f3
 obtain ⟨al, av, e4, hal⟩ := args_reads enc w f4
 simp [stC] at e0 e1 e2 e3 e4
 obtain ⟨rfl, rfl, rfl⟩ := e0
 obtain ⟨rfl, rfl, rfl⟩ := e1
 subst e2 e4
 obtain ⟨rfl, rfl, rfl, rfl, rfl, rfl, rfl, rfl⟩ := e3
 exact ⟨⟨tk, an, pl, st, al⟩, _, _, _, _, _, _, _, _, rfl, ht, ha, hp, hst, hal⟩
end
section
structure RM where
 r : Nat -> Int
 s : Int
 over : Bool
 e : Int
 q : Int

def rmC (m : RM) : Array Value :=
 #[.int .i64 (m.r 0), .int .i64 (m.r 1), .int .i64 (m.r 2), .int .i64 (m.r 3), .int .i64 (m.r 4), .int .i64 (m.r 5), .int .i64 (m.r 6), .int .i64 (m.r 7), .int .i64 (m.r 8), .int .i64 (m.r 9), .int .i64 (m.r 10), .int .i64 (m.r 11), .int .i64 (m.r 12), .int .i64 (m.r 13), .int .i64 (m.r 14), .int .i64 (m.r 15), .int .i64 m.s, .bool m.over, .int .i64 m.e, .int .i64 m.q]

def RMAt (w : World) (g : Nat) (m : RM) : Prop := w.heap[g]? = some (.cells (rmC m) 50 (0, 0))

section
variable {w w' : World} {g : Nat} {m : RM} {S : Nat -> Prop}

theorem rmC_at (m : RM) (k : Nat) (hk : k < 16) : (rmC m)[k]? = some (.int .i64 (m.r k)) := by
 unfold rmC
 have : k = 0 \/ k = 1 \/ k = 2 \/ k = 3 \/ k = 4 \/ k = 5 \/ k = 6 \/ k = 7 \/ k = 8 \/ k = 9 \/ k = 10 \/ k = 11 \/ k = 12 \/ k = 13 \/ k = 14 \/ k = 15 := by omega
 rcases this with rfl | rfl | rfl | rfl | rfl | rfl | rfl | rfl | rfl | rfl | rfl | rfl | rfl | rfl | rfl | rfl <;> rfl

theorem rmC_set (m : RM) (k : Nat) (hk : k < 16) (y : Int) : (rmC m).setIfInBounds k (.int .i64 y) = rmC { m with r := upd m.r k y } := by
 have : k = 0 \/ k = 1 \/ k = 2 \/ k = 3 \/ k = 4 \/ k = 5 \/ k = 6 \/ k = 7 \/ k = 8 \/ k = 9 \/ k = 10 \/ k = 11 \/ k = 12 \/ k = 13 \/ k = 14 \/ k = 15 := by omega
 rcases this with rfl | rfl | rfl | rfl | rfl | rfl | rfl | rfl | rfl | rfl | rfl | rfl | rfl | rfl | rfl | rfl <;> rfl

theorem RMAt.cell (h : RMAt w g m) (k : Nat) (hk : k < 16) : w.cell? ⟨g, k, none⟩ = some (.int .i64 (m.r k)) := by
 rw [cell_of_row w g k _ _ _ h, rmC_at m k hk]
theorem RMAt.rest (h : RMAt w g m) : w.cell? ⟨g, 16, none⟩ = some (.int .i64 m.s) /\ w.cell? ⟨g, 17, none⟩ = some (.bool m.over) /\ w.cell? ⟨g, 18, none⟩ = some (.int .i64 m.e) /\ w.cell? ⟨g, 19, none⟩ = some (.int .i64 m.q) := by
 refine ⟨?_, ?_, ?_, ?_⟩ <;> rw [cell_of_row w g _ _ _ _ h] <;> rfl
theorem RMAt.frozen (h : RMAt w g m) (k : Nat) : w.frozen? ⟨g, k, none⟩ = false := by
 have h' : w.heap[g]? = some (.cells (rmC m) 50 (0, 0)) := h
 simp [World.frozen?, h']
theorem RMAt.set (h : RMAt w g m) (k : Nat) (hk : k < 16) (y : Int) : RMAt (w.setCell ⟨g, k, none⟩ (.int .i64 y)) g { m with r := upd m.r k y } := by
 unfold RMAt
 rw [psetCell_row k _ h, rmC_set m k hk]
theorem RMAt.setSum (h : RMAt w g m) (y : Int) : RMAt (w.setCell ⟨g, 16, none⟩ (.int .i64 y)) g { m with s := y } := by
 unfold RMAt
 rw [psetCell_row 16 _ h]
 rfl
theorem RMAt.setOver (h : RMAt w g m) (b : Bool) : RMAt (w.setCell ⟨g, 17, none⟩ (.bool b)) g { m with over := b } := by
 unfold RMAt
 rw [psetCell_row 17 _ h]
 rfl
theorem RMAt.setErr (h : RMAt w g m) (y : Int) : RMAt (w.setCell ⟨g, 18, none⟩ (.int .i64 y)) g { m with e := y } := by
 unfold RMAt
 rw [psetCell_row 18 _ h]
 rfl
theorem RMAt.setRaised (h : RMAt w g m) (y : Int) : RMAt (w.setCell ⟨g, 19, none⟩ (.int .i64 y)) g { m with q := y } := by
 unfold RMAt
 rw [psetCell_row 19 _ h]
 rfl
theorem RMAt.fr (h : RMAt w g m) (f : Fr S w w') (hS : ¬ S g) : RMAt w' g m := pbox_kept h f hS
theorem RMAt.lt (h : RMAt w g m) : g < w.heap.size := lt_of_block h
end

def ISees (w : World) (v : Value) (l : List Ins) : Prop :=
 l.length <= 100 /\ ((l = [] /\ ∃ a c, v = .slice a 0 c) \/ ∃ g o cap, v = .slice (some ⟨g, o, none⟩) l.length cap /\ l.length <= cap /\
  ∀ (i : Nat) (x : Ins), l[i]? = some x -> w.cell? ⟨g, o + i * 5, none⟩ = some (.int .i64 x.op) /\ w.cell? ⟨g, o + i * 5 + 1, none⟩ = some (.int .i64 x.dst) /\ w.cell? ⟨g, o + i * 5 + 2, none⟩ = some (.int .i64 x.a) /\
   w.cell? ⟨g, o + i * 5 + 3, none⟩ = some (.int .i64 x.b) /\ w.cell? ⟨g, o + i * 5 + 4, none⟩ = some (.int .i64 x.n))

theorem ISees.fr {S : Nat -> Prop} {w w' : World} {v : Value} {l : List Ins} (h : ISees w v l) (f : Fr S w w') (hS : ∀ k, v.ownBlock = some k -> ¬ S k) : ISees w' v l := by
 obtain ⟨h0, h | ⟨g, o, cap, rfl, hle, hc⟩⟩ := h
 ·exact ⟨h0, .inl h⟩
 ·refine ⟨h0, .inr ⟨g, o, cap, rfl, hle, fun i x hx => ?_⟩⟩
  obtain ⟨h1, h2, h3, h4, h5⟩ := hc i x hx
  have hg : g < w.heap.size := World.block_lt_of_cell? w _ h1
  exact ⟨by rw [f.cell hg (hS g rfl)]; exact h1, by rw [f.cell hg (hS g rfl)]; exact h2, by rw [f.cell hg (hS g rfl)]; exact h3, by rw [f.cell hg (hS g rfl)]; exact h4, by rw [f.cell hg (hS g rfl)]; exact h5⟩

def RMpost (o : Out) (m m' : RM) : Prop :=
 match o with
 | .ok b r => m' = { m with r := r, over := b }
 | .bad e n => m'.over = true /\ m'.e = (e : Int) /\ m'.q = n

def RunAt (d : Nat) : Prop := ∀ (l : List Ins) (v : Value) (g : Nat) (fr len : Nat) (m : RM) (w : World), ISees w v l -> (∀ x ∈ l, x.op <= 11) -> fr + len <= l.length -> Well d ((l.drop fr).take len) -> RMAt w g m -> (m.over = false -> m.q = 0) -> (∀ k, v.ownBlock = some k -> k ≠ g) ->
 Calls Try.prog 11 #[.pointer (some ⟨g, 0, none⟩), v, .int .i64 fr, .int .i64 (fr + len : Nat)] w fun e w' => e = .returned (.tuple #[]) /\ ∃ m', RMAt w' g m' /\ Fr (fun k => k = g) w w' /\
  (if m.over then m' = m else RMpost (stepsE (repD m.s d) m.s ((l.drop fr).take len) 0 m.r) m m')
end
section
def insR (x : Ins) : List Value := [.int .i64 x.op, .int .i64 x.dst, .int .i64 x.a, .int .i64 x.b, .int .i64 x.n]

theorem riflat_at (l : List Ins) : ∀ (i j : Nat), j < 5 -> (l.flatMap insR)[i * 5 + j]? = (l[i]?).bind (fun x => (insR x)[j]?) := by
 induction l with
 | nil => simp
 | cons x l ih =>
  intro i j hj
  rw [List.flatMap_cons]
  cases i with
  | zero => rw [List.getElem?_append_left (by simp [insR]; omega)]; simp
  | succ i =>
   rw [List.getElem?_append_right (by simp [insR]; omega), show (i + 1) * 5 + j - (insR x).length = i * 5 + j by simp [insR]; omega, ih i j hj]
   simp

theorem riflat_length (l : List Ins) : (l.flatMap insR).length = l.length * 5 := by
 induction l with
 | nil => rfl
 | cons x l ih => rw [List.flatMap_cons, List.length_append, ih]; simp [insR]; omega

theorem riflat_one (l : List Ins) : ∀ u ∈ l.flatMap insR, u.oneCell' = true := by
 intro u hu
 obtain ⟨x, _, hx⟩ := List.mem_flatMap.1 hu
 simp [insR] at hx
 rcases hx with rfl | rfl | rfl | rfl | rfl <;> rfl

def RIOwn (w : World) (v : Value) (l : List Ins) : Prop := w.ownsRow 0 86 5 v l.length (l.flatMap insR)

theorem Try.infoInsR : (Try.prog.info? 86).map (fun i => (i.zero, i.size, i.bytes)) = some (some (.agg #[.int .i64 0, .int .i64 0, .int .i64 0, .int .i64 0, .int .i64 0]), 5, 40) := by kernel_rfl

theorem RIOwn.nil (w : World) : RIOwn w (.slice none 0 0) [] := World.ownsRow_nil w 0 86 5

theorem RIOwn.fr {S : Nat -> Prop} {w w' : World} {v : Value} {l : List Ins} (h : RIOwn w v l) (hf : Fr S w w') (hS : ∀ k, v.ownBlock = some k -> ¬ S k) : RIOwn w' v l := by
 refine ⟨h.1, ?_⟩
 rcases h.2 with hn | ⟨g, cap, cur, rfl, hb, hgg, rest⟩
 ·exact .inl hn
 ·refine .inr ⟨g, cap, cur, rfl, hb, ?_, rest⟩
  rw [hf.block g (Array.getElem?_eq_some_iff.1 hgg).1 (hS g rfl)]
  exact hgg

def RITold (w w' : World) (v : Value) (l : List Ins) : Prop := RIOwn w' v l /\ Fr (fun _ => False) w w' /\ ∀ k, v.ownBlock = some k -> w.heap.size <= k

theorem RITold.append {w wr w' w3 : World} {v v' : Value} {acc news : List Ins} (h : RITold w wr v acc) (f : Fr (fun _ => False) wr w') (hown' : RIOwn w3 v' (acc ++ news)) (hg : w'.grownBy w3 v.ownBlock)
  {n : Nat} (hc : v'.ownBlock = v.ownBlock \/ v'.ownBlock = some n) (hn : wr.heap.size <= n) : RITold w w3 v' (acc ++ news) := by
 have F := h.2.1.trans f fid2
 refine ⟨hown', F.trans (Fr.of_grown hg) (fun i hi e => by have := h.2.2 i e.symm; omega), ?_⟩
 intro k hk
 rcases hc with e | e
 ·exact h.2.2 k (e ▸ hk)
 ·rw [e] at hk; cases hk; exact Nat.le_trans h.2.1.size hn

theorem RIOwn.sees {w : World} {v : Value} {l : List Ins} (h : RIOwn w v l) (hl : l.length <= 100) : ISees w v l := by
 obtain ⟨_, h2⟩ := h
 rcases h2 with ⟨rfl, h0⟩ | ⟨g, cap, cur, rfl, _, hg, hn, _, hs, ht⟩
 ·exact ⟨hl, .inl ⟨List.eq_nil_of_length_eq_zero h0, none, 0, rfl⟩⟩
 ·refine ⟨hl, .inr ⟨g, 0, cap, rfl, hn, fun i x hx => ?_⟩⟩
  have hi := (List.getElem?_eq_some_iff.1 hx).1
  have key : ∀ j u, j < 5 -> (insR x)[j]? = some u -> w.cell? ⟨g, 0 + i * 5 + j, none⟩ = some u := by
   intro j u hj hu
   rw [Nat.zero_add, cell_of_row w g (i * 5 + j) cur _ (0, 0) hg]
   have e : (cur.toList.take (l.length * 5))[i * 5 + j]? = (l.flatMap insR)[i * 5 + j]? := by rw [ht]
   rw [List.getElem?_take, if_pos (by omega), riflat_at l i j hj, hx] at e
   rw [<- Array.getElem?_toList, e]
   exact hu
  exact ⟨key 0 _ (by omega) rfl, key 1 _ (by omega) rfl, key 2 _ (by omega) rfl, key 3 _ (by omega) rfl, key 4 _ (by omega) rfl⟩

def ROne (w : World) (g : Nat) (x : Ins) : Prop := ∃ cs t f, w.heap[g]? = some (.cells cs t f) /\ cs.toList = insR x

theorem ROne.fr {S : Nat -> Prop} {w w' : World} {g : Nat} {x : Ins} (h : ROne w g x) (f : Fr S w w') (hS : ¬ S g) : ROne w' g x := by
 obtain ⟨cs, t, fz, h1, h2⟩ := h
 exact ⟨cs, t, fz, pbox_kept h1 f hS, h2⟩

theorem ROne.first {P : Program} {w : World} {g : Nat} {x : Ins} (h : ROne w g x) : (Builtin.firstCells 5 1 (.slice (some ⟨g, 0, none⟩) 1 1)).run P w = .ok ([x].flatMap insR).toArray w := by
 obtain ⟨cs, t, f, h1, h2⟩ := h
 refine run_firstCells_some (P := P) w 5 1 ⟨g, 0, none⟩ 1 1 ([x].flatMap insR) (riflat_length _) ?_
 intro j u hj
 rw [pplain_add, Nat.zero_add, cell_of_row w g j cs t f h1, <- Array.getElem?_toList, h2]
 simpa using hj

theorem wpList_append_insR {w : World} {ops : Array Oper} {rest : List Oper} {o : Oper} {a : Act} {Q : Exit -> Act -> World -> Prop} (hgd : o.guard = none) (s x : Operand)
  (ho : o.op = .call { callee := .builtin .append, args := #[s, x], argTypes := #[60, 60] })
  (v : Value) (acc : List Ins) (hs : a.eval s = v) (hown : RIOwn w v acc) (g : Nat) (y : Ins) (hx : a.eval x = .slice (some ⟨g, 0, none⟩) 1 1) (hu : ROne w g y) (hl : acc.length + 1 <= 4000)
  (h : ∀ v' w', RIOwn w' v' (acc ++ [y]) -> w.grownBy w' v.ownBlock -> (v'.ownBlock = v.ownBlock \/ v'.ownBlock = some w.heap.size) -> wpList Try.prog ops Q rest (a.put o.dst v') w') : wpList Try.prog ops Q (o :: rest) a w := by
 obtain ⟨i0, hi, hz0, hz1, hz2⟩ := info_parts Try.infoInsR
 refine wpList_append_sep (P := Try.prog) hgd s x 60 60 ho 0 86 i0 (.agg #[.int .i64 0, .int .i64 0, .int .i64 0, .int .i64 0, .int .i64 0]) 5 40 Try.underlying60 _ Try.underlying60 (.inr ⟨_, rfl⟩) hi hz0 hz1 hz2 rfl (by decide)
  v acc.length _ hs hown _ 1 ([y].flatMap insR) hx (fun w => lenOf_slice _ _ _ _) (riflat_length _) hu.first (hu.fr (w' := w.drew) (S := fun _ => False) ((Fr.refl _ w).drew) (fun h => h)).first (riflat_one [y]) (by unfold maxLen; omega) (by omega) (Nat.zero_le _) ?_
 intro v' w' h1 h2 h3
 refine h v' w' ?_ h2 h3
 unfold RIOwn
 rw [List.flatMap_append, List.length_append]
 exact h1

theorem rtake_one (l : List Ins) (j : Nat) (x : Ins) (hx : l[j]? = some x) : l.take (j + 1) = l.take j ++ [x] := by
 rw [List.take_add_one, hx]; rfl

set_option maxRecDepth 100000 in
theorem refins_any (v : Value) (l : List Ins) (w : World) (h : PSees w v l) (ln : l.length <= 100) :
  Calls Try.prog 10 #[v] w fun e w' => ∃ v', e = .returned v' /\ ISees w' v' l /\ Fr (fun _ => False) w w' /\ ∀ k, v'.ownBlock = some k -> w.heap.size <= k := by
 obtain ⟨a1, c1, rfl, hat⟩ := h.shape
 have HAT := hid hat
 have LN := hid ln
 clear h hat ln
 go_enter Try.func10, Try.ntmps10
 go_wp2_with fail
 go_loopg [3, 8] l.length (fun G u3 u8 wr => ∃ (j : Nat), j <= l.length /\ G = l.length - j /\ u8 = .int .i64 j /\ Hid (RITold w wr u3 (l.take j)))
 case atStart => exact ⟨0, by omega, rfl, rfl, hid ⟨RIOwn.nil _, Fr.refl _ _, by simp [Value.ownBlock]⟩⟩
 case round =>
  obtain ⟨j, hj, rfl, rfl, HI⟩ := hrel
  have ln := LN.out
  by_cases hlt : j < l.length
  ·obtain ⟨x, hx⟩ : ∃ x, l[j]? = some x := ⟨_, List.getElem?_eq_getElem hlt⟩
   rcases HAT.out with h00 | ⟨g, rfl, hcap, hat⟩
   ·subst h00; simp at hlt
   obtain ⟨hfx, c0, c1', c2, c3, c4⟩ := hat j x hx
   have c0 := cell_fr0 HI.out.2.1 c0
   have c1' := cell_fr0 HI.out.2.1 c1'
   have c2 := cell_fr0 HI.out.2.1 c2
   have c3 := cell_fr0 HI.out.2.1 c3
   have c4 := cell_fr0 HI.out.2.1 c4
   have HT := hid (rtake_one l j x hx)
   obtain ⟨f1, f2, f3, f4, f5, f6⟩ := hfx
   clear hx hat
   obtain ⟨op, dst, aa, b, n⟩ := x
   dsimp only at *
   have HLT : Hid ((l.take j).length + 1 <= 4000) := hid (by have := LN.out; simp; omega)
   generalize hacc : l.take j = acc at *
   clear hacc
   go_wp2_with (at_builtin; refine wpList_append_insR rfl (.tmp 12) (.tmp 29) rfl u3 acc rfl ?own _ ⟨op, dst, aa, b, n⟩ rfl ?src ?len ?grow)
   case own => exact HI.out.1.fr (S := fun _ => False) (((Fr.refl _ _).alloc _).alloc _) fid2
   case src => exact ⟨_, _, _, new_two wr _ _, rfl⟩
   case len => exact HLT.out
   case grow =>
    intro v' w3 hown' hgrow hcase
    have HO := hid (HI.out.append (((Fr.refl _ _).alloc _).alloc _) hown' hgrow hcase (by omega))
    clear hown' hgrow hcase
    go_wp2
    go_roundg (l.length - (j + 1))
    case measure => omega
    case rel =>
     exact ⟨j + 1, by omega, rfl, by go_num, hid (by rw [HT.out]; exact HO.out)⟩
  ·obtain rfl : j = l.length := by omega
   go_wp2
   go_ret
   have := HI.out
   rw [List.take_length] at this
   exact ⟨_, rfl, this.1.sees LN.out, this.2.1, this.2.2⟩
end
section
set_option maxRecDepth 100000

abbrev oIns (op dst a b n : Int) : Obj := Obj.cells #[.int .i64 op, .int .i64 dst, .int .i64 a, .int .i64 b, .int .i64 n] 86 (0, 0)

theorem cell5 {w : World} {b : Nat} {x0 x1 x2 x3 x4 : Value} {t : TypeId} (h : w.heap[b]? = some (.cells #[x0, x1, x2, x3, x4] t (0, 0))) :
  w.cell? ⟨b, 0, none⟩ = some x0 /\ w.cell? ⟨b, 1, none⟩ = some x1 /\ w.cell? ⟨b, 2, none⟩ = some x2 /\ w.cell? ⟨b, 3, none⟩ = some x3 /\ w.cell? ⟨b, 4, none⟩ = some x4 := by
 simp [World.cell?, h]

def PPost (O : Out) (m m' : RM) : Prop := if m.over = true then m' = m else RMpost O m m'

def Going (O : Out) (rep : List Ins -> Nat -> (Nat -> Int) -> Out) (m m' : RM) (W : List Ins) : Prop :=
 (m'.over = true /\ PPost O m m') \/ (m.over = false /\ m' = { m with r := m'.r } /\ O = stepsE rep m.s W 0 m'.r)

def Going2 (O2 : Out) (f : (Nat -> Int) -> Out) (m m' : RM) (k : Nat) : Prop := (m'.over = true /\ RMpost O2 m m') \/ (m' = { m with r := m'.r } /\ O2 = repE f k m'.r)

theorem Going.start {O : Out} {rep : List Ins -> Nat -> (Nat -> Int) -> Out} {m : RM} {W : List Ins} (hO : O = stepsE rep m.s W 0 m.r) : Going O rep m m W := by
 cases h : m.over
 ·exact .inr ⟨h, rfl, hO⟩
 ·exact .inl ⟨h, by unfold PPost; rw [if_pos h]⟩

theorem Going.done {O : Out} {rep : List Ins -> Nat -> (Nat -> Int) -> Out} {m m' : RM} (h : Going O rep m m' []) : PPost O m m' := by
 rcases h with ⟨_, h⟩ | ⟨ho, h1, h2⟩
 ·exact h
 ·unfold PPost
  rw [if_neg (by simp [ho]), h2]
  show m' = _
  rw [h1]
  simp [ho]

theorem Going.over {O : Out} {rep : List Ins -> Nat -> (Nat -> Int) -> Out} {m m' : RM} {W : List Ins} (h : Going O rep m m' W) (ho : m'.over = true) : PPost O m m' := by
 rcases h with ⟨_, h⟩ | ⟨hm, h1, _⟩
 ·exact h
 ·rw [h1] at ho
  simp [hm] at ho

theorem RMAt.drew {w : World} {g : Nat} {m : RM} (h : RMAt w g m) : RMAt w.drew g m := h

theorem upd_upd (r : Nat -> Int) (d : Nat) (a b : Int) : upd (upd r d a) d b = upd r d b := by
 funext k
 unfold upd
 split <;> rfl

theorem go_stop {O : Out} {rep : List Ins -> Nat -> (Nat -> Int) -> Out} {m m' : RM} {W : List Ins} (hO : O = .ok true m'.r) (hmo : m.over = false) (hmr : m' = { m with r := m'.r }) : Going O rep m { m' with over := true } W := by
 refine .inl ⟨rfl, ?_⟩
 unfold PPost
 rw [if_neg (by simp [hmo]), hO]
 show _ = _
 rw [hmr]

theorem go_bad {O : Out} {rep : List Ins -> Nat -> (Nat -> Int) -> Out} {m m' : RM} {W : List Ins} {e : Nat} {n : Int} (hO : O = .bad e n) (hmo : m.over = false) (ho : m'.over = true) (he : m'.e = (e : Int)) (hn : m'.q = n) : Going O rep m m' W := by
 refine .inl ⟨ho, ?_⟩
 unfold PPost
 rw [if_neg (by simp [hmo]), hO]
 exact ⟨ho, he, hn⟩

theorem go_val {O : Out} {rep : List Ins -> Nat -> (Nat -> Int) -> Out} {m m' : RM} {W : List Ins} {p fr dst : Nat} {v : Int} (hO : O = stepsE rep m.s (W.drop (p - fr + 1)) 0 (upd m'.r dst v)) (hmo : m.over = false) (hmr : m' = { m with r := m'.r }) (hfp : fr <= p) :
  Going O rep m { m' with r := upd m'.r dst v } (W.drop (p + 1 - fr)) := by
 refine .inr ⟨hmo, ?_, ?_⟩
 ·rw [hmr]
 ·rw [show p + 1 - fr = p - fr + 1 by omega]
  exact hO

theorem go_to {O : Out} {rep : List Ins -> Nat -> (Nat -> Int) -> Out} {m m' : RM} {W : List Ins} {p fr k : Nat} (hO : O = stepsE rep m.s (W.drop (p - fr + 1 + k)) 0 m'.r) (hmo : m.over = false) (hmr : m' = { m with r := m'.r }) (hfp : fr <= p) :
  Going O rep m m' (W.drop (p + 1 + k - fr)) := by
 refine .inr ⟨hmo, hmr, ?_⟩
 rw [show p + 1 + k - fr = p - fr + 1 + k by omega]
 exact hO

def andOut (o : Out) (k : (Nat -> Int) -> Out) : Out :=
 match o with
 | .ok true r => .ok true r
 | .ok false r => k r
 | .bad e n => .bad e n

theorem steps_nine {rep : List Ins -> Nat -> (Nat -> Int) -> Out} {s : Int} {l : List Ins} {j : Nat} {x : Ins} {r : Nat -> Int} (hx : l[j]? = some x) (h9 : x.op = 9) :
  stepsE rep s (l.drop j) 0 r = andOut (rep ((l.drop (j + 1)).take x.b) x.n.toNat r) (fun r' => stepsE rep s (l.drop (j + 1 + x.b)) 0 r') := by
 rw [steps_at rep s l j x r hx, if_neg (by omega), if_neg (by omega), if_pos h9]
 unfold andOut
 cases rep ((l.drop (j + 1)).take x.b) x.n.toNat r with
 | ok b r' => cases b <;> rfl
 | bad e n => rfl

theorem going2_step {O2 : Out} {f : (Nat -> Int) -> Out} {m m2 m3 : RM} {k : Nat} {o : Out} (h : Going2 O2 f m m2 (k + 1)) (hmo : m.over = false) (ho : o = f m2.r) (h3 : if m2.over = true then m3 = m2 else RMpost o m2 m3) : Going2 O2 f m m3 k := by
 rcases h with ⟨h1, h2⟩ | ⟨h1, h2⟩
 ·rw [if_pos h1] at h3
  subst h3
  exact .inl ⟨h1, h2⟩
 ·have hov : m2.over = false := by rw [h1]; exact hmo
  rw [if_neg (by simp [hov])] at h3
  rw [repE, <- ho] at h2
  cases o with
  | ok b r =>
   have h4 : m3 = { m2 with r := r, over := b } := h3
   cases b with
   | false =>
    right
    rw [h4]
    exact ⟨by rw [h1]; simp [hmo], h2⟩
   | true =>
    left
    rw [h4]
    refine ⟨rfl, ?_⟩
    rw [h2]
    show _ = _
    rw [h1]
  | bad e n =>
   left
   obtain ⟨h4, h5, h6⟩ := h3
   refine ⟨h4, ?_⟩
   rw [h2]
   exact ⟨h4, h5, h6⟩

theorem going2_end {O O2 : Out} {f : (Nat -> Int) -> Out} {rep : List Ins -> Nat -> (Nat -> Int) -> Out} {m m1 m2 : RM} {W' : List Ins} (h : Going2 O2 f m1 m2 0) (hmo : m.over = false) (hm1 : m1 = { m with r := m1.r })
  (hO : O = andOut O2 (fun r' => stepsE rep m.s W' 0 r')) : Going O rep m m2 W' := by
 rcases h with ⟨h1, h2⟩ | ⟨h1, h2⟩
 ·left
  refine ⟨h1, ?_⟩
  unfold PPost
  rw [if_neg (by simp [hmo])]
  cases O2 with
  | ok b r =>
   have h4 : m2 = { m1 with r := r, over := b } := h2
   cases b with
   | false => rw [h4] at h1; cases h1
   | true =>
    rw [hO]
    show m2 = _
    rw [h4, hm1]
  | bad e n =>
   rw [hO]
   exact h2
 ·right
  rw [repE] at h2
  rw [h2] at hO
  exact ⟨hmo, by rw [h1, hm1], hO⟩

theorem sub_body {l W : List Ins} {fr len p b : Nat} (hW : W = (l.drop fr).take len) (hfp : fr <= p) (hb : p - fr + 1 + b <= W.length) (hlen : W.length = len) : (W.drop (p - fr + 1)).take b = (l.drop (p + 1)).take b := by
 rw [hW, List.drop_take, List.take_take, List.drop_drop, show fr + (p - fr + 1) = p + 1 by omega, Nat.min_eq_left (by omega)]

theorem Fr.comp {S T U : Nat -> Prop} {a b c : World} (h : Fr S a b) (k : Fr T b c) (hS : ∀ i, S i -> U i) (hT : ∀ i, T i -> U i) : Fr U a c :=
 (h.mono (fun i _ hi => hS i hi)).trans k (fun i _ hi => hT i hi)

theorem run_any (d : Nat) (hrec : ∀ d', d = d' + 1 -> RunAt d') : RunAt d := by
 intro l v g fr len m w hsee hops hlen hwell hm hq hvg
 obtain ⟨E, hE⟩ : ∃ E, E = fr + len := ⟨_, rfl⟩
 rw [<- hE]
 obtain ⟨W, hW⟩ : ∃ W, W = (l.drop fr).take len := ⟨_, rfl⟩
 rw [<- hW] at hwell ⊢
 have hWl : W.length = len := by rw [hW, List.length_take, List.length_drop]; omega
 have hl100 := hsee.1
 have HSEE := hid hsee
 have HOPS := hid hops
 have HWELL := hid hwell
 have HREC := hid hrec
 have HVG := hid hvg
 have HM := hid hm
 have HQ := hid hq
 have HWL := hid hWl
 have HWW := hid hW
 obtain ⟨va, vc, rfl, hv⟩ : ∃ a c, v = .slice a l.length c /\ (l = [] \/ ∃ gi oi, a = some ⟨gi, oi, none⟩) := by
  rcases hsee.2 with ⟨rfl, a, c, rfl⟩ | ⟨gi, oi, cap, rfl, _, _⟩
  ·exact ⟨a, c, rfl, .inl rfl⟩
  ·exact ⟨_, _, rfl, .inr ⟨gi, oi, rfl⟩⟩
 have HV := hid hv
 clear hsee hops hwell hrec hvg hm hq hWl hW hv
 have hE100 : E <= 100 := by omega
 have hfE : fr <= E := by omega
 have hEl : E <= l.length := by omega
 have HE := hid hE
 clear hE hlen
 obtain ⟨O, hO⟩ : ∃ O, O = stepsE (repD m.s d) m.s W 0 m.r := ⟨_, rfl⟩
 rw [<- hO]
 have HG0 : Hid (Going O (repD m.s d) m m (W.drop (fr - fr))) := hid (by rw [Nat.sub_self]; exact Going.start hO)
 have HO := hid hO
 clear hO
 show Calls Try.prog 11 _ w fun e w' => e = .returned (.tuple #[]) /\ ∃ m', RMAt w' g m' /\ Fr (fun k => k = g) w w' /\ PPost O m m'
 go_enter Try.func11, Try.ntmps11
 go_wp2_with fail
 go_loopg [8] (E - fr) (fun G u8 wr => ∃ (p : Nat) (m' : RM), fr <= p /\ p <= 50000 /\ G = E - p /\ u8 = .int .i64 p /\ RMAt wr g m' /\ Fr (fun k => k = g) w wr /\ Going O (repD m.s d) m m' (W.drop (p - fr)))
 case atStart => exact ⟨fr, m, Nat.le_refl _, by omega, rfl, rfl, HM.out, Fr.refl _ _, HG0.out⟩
 case round =>
  clear HG0 HM
  obtain ⟨p, m', hfp, hp, rfl, rfl, hm', hf', hgo⟩ := hrel
  have HF := hid hf'
  have HGO := hid hgo
  have HM := hid hm'
  obtain ⟨s0, s1, s2, s3⟩ := HM.out.rest
  have hg := HM.out.lt
  clear hf' hgo hm'
  by_cases hlt : p < E
  case neg =>
   have hge : ¬ (p : Int) < (E : Int) := by omega
   have hdone : PPost O m m' := by
    have h := HGO.out
    rw [List.drop_eq_nil_of_le (by have := HWL.out; have := HE.out; omega)] at h
    exact h.done
   have HD := hid hdone; clear hdone
   go_wp2_with fail
   go_end0
   exact ⟨rfl, m', HM.out, HF.out, HD.out⟩
  have hlt' : (p : Int) < (E : Int) := by omega
  cases hov : m'.over
  case true =>
   have HD := hid (HGO.out.over hov)
   rw [hov] at s1
   clear hov
   go_wp2_with fail
   go_end0
   exact ⟨rfl, m', HM.out, HF.out, HD.out⟩
  case false =>
  obtain ⟨hmo, hmr, hO⟩ : m.over = false /\ m' = { m with r := m'.r } /\ O = stepsE (repD m.s d) m.s (W.drop (p - fr)) 0 m'.r := by
   rcases HGO.out with ⟨h, _⟩ | h
   ·rw [hov] at h; cases h
   ·exact h
  have hpW : p - fr < W.length := by have := HWL.out; have := HE.out; omega
  obtain ⟨x, hx⟩ : ∃ x, W[p - fr]? = some x := ⟨_, List.getElem?_eq_getElem hpW⟩
  have hxl : l[p]? = some x := by
   rw [HWW.out, List.getElem?_take] at hx
   split at hx
   ·rw [List.getElem?_drop, show fr + (p - fr) = p by omega] at hx
    exact hx
   ·cases hx
  have h11 := HOPS.out x (List.mem_of_getElem? hxl)
  obtain ⟨hfit, hdst, ha, hb, h8⟩ := HWELL.out.one hx
  have h9 : x.op = 9 -> ∃ d', d = d' + 1 /\ (p - fr) + 1 + x.b <= W.length /\ 0 < x.b /\ Well d' ((W.drop (p - fr + 1)).take x.b) := by
   intro e9
   have hw := HWELL.out
   cases d with
   | zero => exact absurd e9 (hw _ x hx).2.2.2.2.2
   | succ d' =>
    obtain ⟨_, _, _, _, _, h⟩ := hw _ x hx
    exact ⟨d', rfl, (h e9).1.1, (h e9).1.2, (h e9).2⟩
  have h99 := fun (h9 : x.op = 9) => hO.trans (steps_nine hx h9)
  rw [steps_at (repD m.s d) m.s W (p - fr) x m'.r hx] at hO
  obtain ⟨gi, oi, hva, hc0, hc1, hc2, hc3, hc4⟩ : ∃ gi oi, va = some ⟨gi, oi, none⟩ /\ wr.cell? ⟨gi, oi + p * 5, none⟩ = some (.int .i64 x.op) /\ wr.cell? ⟨gi, oi + p * 5 + 1, none⟩ = some (.int .i64 x.dst) /\ wr.cell? ⟨gi, oi + p * 5 + 2, none⟩ = some (.int .i64 x.a) /\
    wr.cell? ⟨gi, oi + p * 5 + 3, none⟩ = some (.int .i64 x.b) /\ wr.cell? ⟨gi, oi + p * 5 + 4, none⟩ = some (.int .i64 x.n) := by
   obtain ⟨_, ⟨h, _⟩ | ⟨gi, oi, cap, e, _, h⟩⟩ := HSEE.out.fr HF.out HVG.out
   ·rw [h] at hxl; simp at hxl
   ·simp only [Value.slice.injEq] at e
    exact ⟨gi, oi, e.1, h p x hxl⟩
  subst hva
  have hpl : p < l.length := by omega
  have hfit1 := hfit.lo
  have hfit2 := hfit.hi
  obtain ⟨op, dst, ai, bi, n⟩ := x
  simp only at *
  have HO2 := hid hO
  have H99 := hid h99
  have HMR := hid hmr
  have H9 := hid h9
  have HB16 := hid hb
  have H8 := hid h8
  have H11 := hid h11
  have HX := hid hxl
  have HMO := hid hmo
  rw [hov] at s1
  have hca := HM.out.cell ai ha
  have hcd := HM.out.cell dst hdst
  have hfz := HM.out.frozen
  have hgne : g ≠ wr.heap.size := by omega
  clear hO h99 hmr h9 hb h8 h11 hxl hmo hx hpW hfit hov
  go_upto_region 3 with fail
  have f1 : Fr (fun _ => False) wr (wr.alloc (oIns op dst ai bi n)) := (Fr.refl _ _).alloc _
  have q1 := heap_alloc_new wr (oIns op dst ai bi n)
  generalize wr.alloc (oIns op dst ai bi n) = w1 at *
  generalize wr.heap.size = gx at *
  have HM1 := hid (HM.out.fr f1 (fun h => h))
  have HF1 := hid (HF.out.comp f1 (U := fun k => k = g) (fun _ h => h) (fun _ h => h.elim))
  clear hca hcd hfz s0 s1 s2 s3 hc0 hc1 hc2 hc3 hc4 f1
  obtain ⟨c0, c1, c2, c3, c4⟩ := cell5 q1
  have hca := HM1.out.cell ai ha
  have hcd := HM1.out.cell dst hdst
  have hfz := HM1.out.frozen
  obtain ⟨s0, s1, s2, s3⟩ := HM1.out.rest
  have hgx := (Array.getElem?_eq_some_iff.1 q1).1
  have HQX := hid q1
  clear q1
  obtain ⟨n0, hn0⟩ : ∃ n0, n0 = m'.r ai := ⟨_, rfl⟩
  rw [<- hn0] at hca
  have HN0 := hid hn0; clear hn0
  go_region
  by_cases hb : bi < 16
  case pos =>
   have hcb := HM1.out.cell bi hb
   obtain ⟨n1, hn1⟩ : ∃ n1, n1 = m'.r bi := ⟨_, rfl⟩
   rw [<- hn1] at hcb
   have HN1 := hid hn1; clear hn1
   go_upto_region 6 with fail
   go_region
   go_upto_region 9 with fail
   have h12 : op = 0 \/ op = 1 \/ op = 2 \/ op = 3 \/ op = 4 \/ op = 5 \/ op = 6 \/ op = 7 \/ op = 8 \/ op = 9 \/ op = 10 \/ op = 11 := by have := H11.out; omega
   rcases h12 with rfl | rfl | rfl | rfl | rfl | rfl | rfl | rfl | rfl | rfl | rfl | rfl
   ·as_aux_lemma =>
     clear HREC HWELL
     go_wp2_with fail
     go_roundg (E - (p + 1))
     case measure => omega
     case rel =>
      have h := HO2.out
      simp at h
      exact ⟨p + 1, _, by omega, by omega, rfl, by simp, (HM1.out.setOver true).drew.drew, (HF1.out.set1 17 _).drew.drew, go_stop h HMO.out HMR.out⟩
   ·as_aux_lemma =>
     clear HREC HWELL
     go_wp2_with fail
     go_region
     go_wp2_with fail
     go_roundg (E - (p + 1))
     case measure => omega
     case rel =>
      have h := HO2.out
      simp [opE] at h
      skip
      exact ⟨p + 1, _, by omega, by omega, rfl, by simp, (HM1.out.set dst hdst _).drew.drew.drew, (HF1.out.set1 dst _).drew.drew.drew, go_val h HMO.out HMR.out hfp⟩
   ·as_aux_lemma =>
     clear HREC HWELL
     go_wp2_with fail
     go_region
     go_wp2_with fail
     go_roundg (E - (p + 1))
     case measure => omega
     case rel =>
      have h := HO2.out
      simp [opE] at h
      rw [<- HN0.out] at h
      exact ⟨p + 1, _, by omega, by omega, rfl, by simp, (HM1.out.set dst hdst _).drew.drew.drew, (HF1.out.set1 dst _).drew.drew.drew, go_val h HMO.out HMR.out hfp⟩
   ·as_aux_lemma =>
     clear HREC HWELL
     go_wp2_with fail
     go_region
     go_wp2_with fail
     go_roundg (E - (p + 1))
     case measure => omega
     case rel =>
      have h := HO2.out
      simp [opE] at h
      rw [<- HN0.out, <- HN1.out] at h
      exact ⟨p + 1, _, by omega, by omega, rfl, by simp, (HM1.out.set dst hdst _).drew.drew.drew, (HF1.out.set1 dst _).drew.drew.drew, go_val h HMO.out HMR.out hfp⟩
   ·as_aux_lemma =>
     clear HREC HWELL
     go_wp2_with fail
     go_region
     go_wp2_with fail
     go_roundg (E - (p + 1))
     case measure => omega
     case rel =>
      have h := HO2.out
      simp [opE] at h
      rw [<- HN0.out, <- HN1.out] at h
      exact ⟨p + 1, _, by omega, by omega, rfl, by simp, (HM1.out.set dst hdst _).drew.drew.drew, (HF1.out.set1 dst _).drew.drew.drew, go_val h HMO.out HMR.out hfp⟩
   ·as_aux_lemma =>
     clear HREC HWELL
     go_wp2_with fail
     go_region
     go_wp2_with fail
     go_roundg (E - (p + 1))
     case measure => omega
     case rel =>
      have h := HO2.out
      simp [opE] at h
      rw [<- HN0.out, <- HN1.out] at h
      exact ⟨p + 1, _, by omega, by omega, rfl, by simp, (HM1.out.set dst hdst _).drew.drew.drew, (HF1.out.set1 dst _).drew.drew.drew, go_val h HMO.out HMR.out hfp⟩
   ·as_aux_lemma =>
     clear HREC HWELL
     by_cases hz : n1 = 0
     ·have HZ := hid hz
      subst hz
      go_wp2_with fail
      go_roundg (E - (p + 1))
      case measure => omega
      case rel =>
       have h := HO2.out
       simp [opE] at h
       rw [<- HN1.out] at h
       simp at h
       refine ⟨p + 1, _, by omega, by omega, rfl, by simp, ((HM1.out.setOver true).setErr 14).drew.drew, ((HF1.out.set1 17 _).set1 18 _).drew.drew, go_bad (e := 14) (n := 0) h HMO.out rfl rfl ?_⟩
       show m'.q = 0
       rw [HMR.out]
       exact HQ.out HMO.out
     ·have hz' : ¬ n1 = 0 := hz
      go_wp2_with fail
      go_region
      go_wp2_with fail
      go_roundg (E - (p + 1))
      case measure => omega
      case rel =>
       have h := HO2.out
       simp [opE] at h
       rw [<- HN0.out, <- HN1.out, if_neg hz] at h
       exact ⟨p + 1, _, by omega, by omega, rfl, by simp, (HM1.out.set dst hdst _).drew.drew.drew, (HF1.out.set1 dst _).drew.drew.drew, go_val h HMO.out HMR.out hfp⟩
   ·as_aux_lemma =>
     clear HREC HWELL
     go_upto_region 27 with fail
     go_region
     have HM2 := hid (HM1.out.set dst hdst 0)
     by_cases hz : n0 < n1
     ·have hcd2 := HM2.out.cell dst hdst
      have hfz2 := HM2.out.frozen
      go_wp2_with fail
      go_region
      go_wp2_with fail
      go_roundg (E - (p + 1))
      case measure => omega
      case rel =>
       have h := HO2.out
       simp [opE] at h
       rw [<- HN0.out, <- HN1.out, if_pos hz] at h
       rw [<- upd_upd m'.r dst 0 1] at h
       exact ⟨p + 1, _, by omega, by omega, rfl, by simp, (HM2.out.set dst hdst 1).drew.drew.drew.drew, ((HF1.out.set1 dst _).set1 dst _).drew.drew.drew.drew, go_val (m' := { m' with r := upd m'.r dst 0 }) h HMO.out (by rw [HMR.out]) hfp⟩
     ·go_wp2_with fail
      go_roundg (E - (p + 1))
      case measure => omega
      case rel =>
       have h := HO2.out
       simp [opE] at h
       rw [<- HN0.out, <- HN1.out, if_neg (by omega)] at h
       exact ⟨p + 1, _, by omega, by omega, rfl, by simp, HM2.out.drew.drew.drew, (HF1.out.set1 dst _).drew.drew.drew, go_val h HMO.out HMR.out hfp⟩
   ·as_aux_lemma =>
     clear HREC HWELL
     have hn8 : 0 <= n := H8.out rfl
     obtain ⟨k, hk⟩ : ∃ k : Nat, n = k := ⟨n.toNat, by omega⟩
     subst hk
     by_cases hz : n0 = 0
     ·have HZ := hid hz
      subst hz
      go_wp2_with fail
      go_roundg (E - (p + 1 + k))
      case measure => omega
      case rel =>
       have h := HO2.out
       simp at h
       rw [<- HN0.out] at h
       simp at h
       exact ⟨p + 1 + k, m', by omega, by omega, rfl, by simp, HM1.out.drew.drew, HF1.out.drew.drew, go_to h HMO.out HMR.out hfp⟩
     ·go_wp2_with fail
      go_roundg (E - (p + 1))
      case measure => omega
      case rel =>
       have h := HO2.out
       simp at h
       rw [<- HN0.out, if_neg hz] at h
       exact ⟨p + 1 + 0, m', by omega, by omega, by simp, by simp, HM1.out.drew.drew, HF1.out.drew.drew, go_to h HMO.out HMR.out hfp⟩
   ·as_aux_lemma =>
     obtain ⟨d', rfl, hw1, hb0, hw9⟩ := H9.out rfl
     have hsub := sub_body HWW.out hfp hw1 HWL.out
     rw [hsub] at hw9
     have HRUN := hid (HREC.out d' rfl)
     have hpe : p + 1 + bi <= E := by have := HWL.out; have := HE.out; omega
     have hpl2 : p + 1 + bi <= l.length := by omega
     obtain ⟨N, hN⟩ : ∃ N, N = n.toNat := ⟨_, rfl⟩
     obtain ⟨O2, hO2⟩ : ∃ O2, O2 = repE (runE m.s d' ((l.drop (p + 1)).take bi)) N m'.r := ⟨_, rfl⟩
     have hOO : O = andOut O2 (fun r' => stepsE (repD m.s (d' + 1)) m.s (W.drop (p + 1 + bi - fr)) 0 r') := by
      have h := H99.out rfl
      rw [hsub, <- hN] at h
      rw [h, hO2, show p + 1 + bi - fr = p - fr + 1 + bi by omega]
      rfl
     have HOO := hid hOO
     have HW9 := hid hw9
     have HO22 := hid hO2
     have HNN := hid hN
     clear hOO hw9 hO2 hsub hN hb0
     go_upto_region 34 with fail
     go_wp2_with fail
     go_loopg [12] N (fun G2 u12 wi => ∃ (k : Nat) (m2 : RM), k <= N /\ G2 = N - k /\ u12 = .int .i64 k /\ RMAt wi g m2 /\ Fr (fun k => k = g) w1 wi /\ Going2 O2 (runE m.s d' ((l.drop (p + 1)).take bi)) m' m2 (N - k))
     case atStart => exact ⟨0, m', Nat.zero_le _, rfl, rfl, HM1.out.drew.drew, ((Fr.refl (fun k => k = g) w1).drew).drew, .inr ⟨rfl, HO22.out⟩⟩
     case round =>
      obtain ⟨k, m2, hkN, rfl, rfl, hm2, hf2, hg2⟩ := hrel
      have HM2 := hid hm2
      have HF2 := hid hf2
      have HG2 := hid hg2
      obtain ⟨e0, e1, e2, e3, e4⟩ := cell5 (pbox_kept HQX.out hf2 (fun h => hgne h.symm))
      clear hm2 hf2 hg2
      by_cases hkl : k < N
      case neg =>
       have hkn : ¬ (k : Int) < n := by have := HNN.out; omega
       obtain rfl : k = N := by omega
       have HG3 := hid (show Going O (repD m.s (d' + 1)) m m2 (W.drop (p + 1 + bi - fr)) from by
        have h := HG2.out
        rw [Nat.sub_self] at h
        exact going2_end h HMO.out HMR.out HOO.out)
       go_wp2_with fail
       go_roundg (E - (p + 1 + bi))
       case measure => omega
       case rel => exact ⟨p + 1 + bi, m2, by omega, by omega, rfl, by simp, HM2.out, HF1.out.trans HF2.out fid2, HG3.out⟩
      case pos =>
       have hkn : (k : Int) < n := by have := HNN.out; omega
       have hc := HRUN.out l (.slice (some ⟨gi, oi, none⟩) l.length vc) g (p + 1) bi m2 wr ((HSEE.out.fr HF1.out HVG.out).fr HF2.out HVG.out) HOPS.out hpl2 HW9.out HM2.out (fun h => by
        rcases HG2.out with ⟨h1, _⟩ | ⟨h1, _⟩
        ·rw [h] at h1; cases h1
        ·rw [h1, HMR.out]; exact HQ.out HMO.out) HVG.out
       rw [show ((p + 1 + bi : Nat) : Int) = (p : Int) + 1 + (bi : Int) by omega, show ((p + 1 : Nat) : Int) = (p : Int) + 1 by omega] at hc
       have HC := hid hc
       clear hc
       go_wp2_with fail
       refine HC.out.mono ?_
       rintro z w5 ⟨rfl, m3, hm3, hf3, h3⟩
       have HM3 := hid hm3
       have HF3 := hid hf3
       have HG3 := hid (show Going2 O2 (runE m.s d' ((l.drop (p + 1)).take bi)) m' m3 (N - (k + 1)) from by
        have hg := HG2.out
        rw [show N - k = N - (k + 1) + 1 by omega] at hg
        refine going2_step hg ?_ rfl ?_
        ·rw [HMR.out]; exact HMO.out
        ·rw [runE_steps]
         have hs : m2.over = false -> m2.s = m.s := fun h => by
          rcases HG2.out with ⟨h1, _⟩ | ⟨h1, _⟩
          ·rw [h] at h1; cases h1
          ·rw [h1, HMR.out]
         cases hov2 : m2.over with
         | true =>
          rw [hov2] at h3
          exact h3
         | false =>
          rw [hov2, hs hov2] at h3
          exact h3)
       clear hm3 hf3 h3 HC
       go_wp2_with fail
       go_roundg (N - (k + 1))
       case measure => omega
       case rel => exact ⟨k + 1, m3, by omega, rfl, by simp, HM3.out, HF2.out.trans HF3.out fid2, HG3.out⟩
   ·as_aux_lemma =>
     clear HREC HWELL
     by_cases hz : n0 = 0
     ·have HZ := hid hz
      subst hz
      go_wp2_with fail
      go_roundg (E - (p + 1))
      case measure => omega
      case rel =>
       have h := HO2.out
       simp at h
       rw [<- HN0.out] at h
       simp at h
       exact ⟨p + 1 + 0, m', by omega, by omega, by simp, by simp, HM1.out.drew.drew, HF1.out.drew.drew, go_to h HMO.out HMR.out hfp⟩
     ·go_wp2_with fail
      go_roundg (E - (p + 1))
      case measure => omega
      case rel =>
       have h := HO2.out
       simp at h
       rw [<- HN0.out, if_neg hz] at h
       exact ⟨p + 1, _, by omega, by omega, rfl, by simp, (((HM1.out.setOver true).setErr 16).setRaised n).drew.drew, (((HF1.out.set1 17 _).set1 18 _).set1 19 _).drew.drew, go_bad (e := 16) (n := n) h HMO.out rfl rfl rfl⟩
   ·as_aux_lemma =>
     clear HREC HWELL
     have hs := congrArg RM.s HMR.out
     simp only at hs
     go_wp2_with fail
     go_region
     go_wp2_with fail
     go_roundg (E - (p + 1))
     case measure => omega
     case rel =>
      have h := HO2.out
      simp [opE] at h
      exact ⟨p + 1, _, by omega, by omega, rfl, by simp, (HM1.out.set dst hdst _).drew.drew.drew, (HF1.out.set1 dst _).drew.drew.drew, go_val h HMO.out HMR.out hfp⟩
  case neg =>
   go_upto_region 9 with fail
   obtain rfl : op = 9 := by
    by_cases h : op = 9
    ·exact h
    ·exact absurd (HB16.out h) hb
   as_aux_lemma =>
     obtain ⟨d', rfl, hw1, hb0, hw9⟩ := H9.out rfl
     have hsub := sub_body HWW.out hfp hw1 HWL.out
     rw [hsub] at hw9
     have HRUN := hid (HREC.out d' rfl)
     have hpe : p + 1 + bi <= E := by have := HWL.out; have := HE.out; omega
     have hpl2 : p + 1 + bi <= l.length := by omega
     obtain ⟨N, hN⟩ : ∃ N, N = n.toNat := ⟨_, rfl⟩
     obtain ⟨O2, hO2⟩ : ∃ O2, O2 = repE (runE m.s d' ((l.drop (p + 1)).take bi)) N m'.r := ⟨_, rfl⟩
     have hOO : O = andOut O2 (fun r' => stepsE (repD m.s (d' + 1)) m.s (W.drop (p + 1 + bi - fr)) 0 r') := by
      have h := H99.out rfl
      rw [hsub, <- hN] at h
      rw [h, hO2, show p + 1 + bi - fr = p - fr + 1 + bi by omega]
      rfl
     have HOO := hid hOO
     have HW9 := hid hw9
     have HO22 := hid hO2
     have HNN := hid hN
     clear hOO hw9 hO2 hsub hN hb0
     go_upto_region 34 with fail
     go_wp2_with fail
     go_loopg [12] N (fun G2 u12 wi => ∃ (k : Nat) (m2 : RM), k <= N /\ G2 = N - k /\ u12 = .int .i64 k /\ RMAt wi g m2 /\ Fr (fun k => k = g) w1 wi /\ Going2 O2 (runE m.s d' ((l.drop (p + 1)).take bi)) m' m2 (N - k))
     case atStart => exact ⟨0, m', Nat.zero_le _, rfl, rfl, HM1.out.drew.drew, (Fr.refl (fun k => k = g) w1).drew, .inr ⟨rfl, HO22.out⟩⟩
     case round =>
      obtain ⟨k, m2, hkN, rfl, rfl, hm2, hf2, hg2⟩ := hrel
      have HM2 := hid hm2
      have HF2 := hid hf2
      have HG2 := hid hg2
      obtain ⟨e0, e1, e2, e3, e4⟩ := cell5 (pbox_kept HQX.out hf2 (fun h => hgne h.symm))
      clear hm2 hf2 hg2
      by_cases hkl : k < N
      case neg =>
       have hkn : ¬ (k : Int) < n := by have := HNN.out; omega
       obtain rfl : k = N := by omega
       have HG3 := hid (show Going O (repD m.s (d' + 1)) m m2 (W.drop (p + 1 + bi - fr)) from by
        have h := HG2.out
        rw [Nat.sub_self] at h
        exact going2_end h HMO.out HMR.out HOO.out)
       go_wp2_with fail
       go_roundg (E - (p + 1 + bi))
       case measure => omega
       case rel => exact ⟨p + 1 + bi, m2, by omega, by omega, rfl, by simp, HM2.out, HF1.out.trans HF2.out fid2, HG3.out⟩
      case pos =>
       have hkn : (k : Int) < n := by have := HNN.out; omega
       have hc := HRUN.out l (.slice (some ⟨gi, oi, none⟩) l.length vc) g (p + 1) bi m2 wr ((HSEE.out.fr HF1.out HVG.out).fr HF2.out HVG.out) HOPS.out hpl2 HW9.out HM2.out (fun h => by
        rcases HG2.out with ⟨h1, _⟩ | ⟨h1, _⟩
        ·rw [h] at h1; cases h1
        ·rw [h1, HMR.out]; exact HQ.out HMO.out) HVG.out
       rw [show ((p + 1 + bi : Nat) : Int) = (p : Int) + 1 + (bi : Int) by omega, show ((p + 1 : Nat) : Int) = (p : Int) + 1 by omega] at hc
       have HC := hid hc
       clear hc
       go_wp2_with fail
       refine HC.out.mono ?_
       rintro z w5 ⟨rfl, m3, hm3, hf3, h3⟩
       have HM3 := hid hm3
       have HF3 := hid hf3
       have HG3 := hid (show Going2 O2 (runE m.s d' ((l.drop (p + 1)).take bi)) m' m3 (N - (k + 1)) from by
        have hg := HG2.out
        rw [show N - k = N - (k + 1) + 1 by omega] at hg
        refine going2_step hg ?_ rfl ?_
        ·rw [HMR.out]; exact HMO.out
        ·rw [runE_steps]
         have hs : m2.over = false -> m2.s = m.s := fun h => by
          rcases HG2.out with ⟨h1, _⟩ | ⟨h1, _⟩
          ·rw [h] at h1; cases h1
          ·rw [h1, HMR.out]
         cases hov2 : m2.over with
         | true =>
          rw [hov2] at h3
          exact h3
         | false =>
          rw [hov2, hs hov2] at h3
          exact h3)
       clear hm3 hf3 h3 HC
       go_wp2_with fail
       go_roundg (N - (k + 1))
       case measure => omega
       case rel => exact ⟨k + 1, m3, by omega, rfl, by simp, HM3.out, HF2.out.trans HF3.out fid2, HG3.out⟩

theorem run_all : ∀ d, RunAt d
 | 0 => run_any 0 (fun d' h => by omega)
 | d + 1 => run_any (d + 1) (fun d' h => by
   have : d' = d := by omega
   subst this
   exact run_all d')
end
section
theorem playE_ok {t a : KT} {p : List Ins} {T : VT} {s r : Nat -> Int} {b : Bool} {fl : List Int} (h0 : pcheckE p = 0) (h1 : isVal t T = true) (hfl : flatE t T 64 = fl) (h2 : runE (sumE fl) 1 p (loadE s fl) = .ok b r) :
  playE t a p T s = (r, ⟨0, 0, BuildE (regs r) a⟩) := by
 unfold playE
 rw [if_neg (by simp [h0]), if_neg (by simp [h1]), hfl, h2]

theorem playE_bad {t a : KT} {p : List Ins} {T : VT} {s : Nat -> Int} {e : Nat} {n : Int} {fl : List Int} (h0 : pcheckE p = 0) (h1 : isVal t T = true) (hfl : flatE t T 64 = fl) (h2 : runE (sumE fl) 1 p (loadE s fl) = .bad e n) :
  playE t a p T s = (s, ⟨e, n, zeroV⟩) := by
 unfold playE
 rw [if_neg (by simp [h0]), if_neg (by simp [h1]), hfl, h2]

theorem num_cells {R : Nat -> Prop} {w : World} {x : Int} {x0 x1 x2 x3 : Value} (h : VShows R w (numT x) (.agg #[x0, x1, x2, x3])) : x0 = .int .i64 x := by
 obtain ⟨vo, e, _⟩ := h
 simp at e
 exact e.1

theorem sees_block {w : World} {g : Nat} {cs : Array Value} {t : TypeId} (h : w.heap[g]? = some (.cells cs t (0, 0))) (l : List Ins) (hf : ∀ x ∈ l, x.Fits) (hc : cs = (l.flatMap insC).toArray) (n cap : Nat) (hn : n = l.length) (hcap : n <= cap) : PSees w (.slice (some ⟨g, 0, none⟩) n cap) l := by
 subst hn hc
 refine .inr ⟨g, cap, rfl, hcap, fun i x hx => ?_⟩
 have key : ∀ j u, j < 5 -> (insC x)[j]? = some u -> w.cell? ⟨g, i * 5 + j, none⟩ = some u := by
  intro j u hj hu
  rw [cell_of_row w g _ _ _ _ h]
  have := flat_at l i j hj
  rw [hx] at this
  simp only [List.getElem?_toArray, this]
  exact hu
 exact ⟨hf x (List.mem_of_getElem? hx), key 0 _ (by omega) rfl, key 1 _ (by omega) rfl, key 2 _ (by omega) rfl, key 3 _ (by omega) rfl, key 4 _ (by omega) rfl⟩

def st3 : Nat -> Int := fun k => if k = 0 then 3 else 0

theorem awake_play : ∃ r, playE (leafK 1) (leafK 0) [⟨3, 0, 0, 8, 0⟩] (numT 5) st3 = (r, ⟨0, 0, numT 1⟩) /\ r 0 = 8 := by
 have h2 : runE (sumE [5]) 1 [⟨3, 0, 0, 8, 0⟩] (loadE st3 [5]) = .ok false (upd (loadE st3 [5]) 0 8) := by
  simp [runE, stepsE, opE, loadE, st3, wrap64]
 refine ⟨upd (loadE st3 [5]) 0 8, ?_, rfl⟩
 rw [playE_ok (by decide) (by rw [leaf_val1]; decide) (leaf_flat 1 (by decide) 5) h2, leaf_build]
 rfl

attribute [local go_sem] run_store_float

set_option maxRecDepth 100000 in
theorem pawake_any (w : World) : Calls Try.prog 4 #[] w fun e w' => e = .returned (.bool true) /\ Fr (fun _ => False) w w' := by
 obtain ⟨r, hr, h8⟩ := awake_play
 obtain ⟨w1, hw1⟩ : ∃ w1, w1 = (w.alloc (.cells #[.int .u8 3, .int .u8 0, .int .u8 0, .int .u8 8, .int .i16 0] 79)).alloc (.cells #[.int .u8 1, .int .i64 0, .slice none 0 0, .slice none 0 0, .int .u8 0, .int .i64 0, .slice none 0 0, .slice none 0 0, .slice (some ⟨w.heap.size, 0, none⟩) 1 1] 40) := ⟨_, rfl⟩
 have f1 : Fr (fun _ => False) w w1 := by rw [hw1]; exact ((Fr.refl _ _).alloc _).alloc _
 have q1 : w1.heap[w.heap.size]? = some (.cells #[.int .u8 3, .int .u8 0, .int .u8 0, .int .u8 8, .int .i16 0] 79 (0, 0)) := by rw [hw1]; exact pbox_kept (heap_alloc_new _ _) ((Fr.refl (fun _ => False) _).alloc _) (fun h => h)
 have HP := hid (Play_any (fun _ => True) (leafK 1) (leafK 0) [⟨3, 0, 0, 8, 0⟩] (numT 5) st3 _ _ _ _ _ _ _ _ _ _ _ _ _ w1 (sees_block q1 [⟨3, 0, 0, 8, 0⟩] (by intro x hx; rw [List.mem_singleton.1 hx]; exact ⟨by decide, by decide, by decide, by decide, by decide, by decide⟩) rfl 1 1 rfl (by decide)) (by intro x hx; rw [List.mem_singleton.1 hx]; exact ⟨by decide, by decide, by decide, by decide, by decide, by decide⟩) (by decide) (leaf_shows 1 (by decide) _ _) (leaf_shows 0 (by decide) _ _) (num_shows 5 (by decide) _ _)
  (by decide) (leaf_cost 0 (by decide)) leaf_build_val (by intro k _; unfold st3; split <;> omega))
 rw [hr] at HP
 have H8 := hid h8
 have F1 := hid f1
 clear hr h8 f1 q1
 simp only [st3, stC] at HP
 go_enter Try.func4, Try.ntmps4
 go_wp2_with fail
 rw [<- hw1]
 clear hw1
 refine HP.out.mono ?_
 rintro e w2 ⟨⟨ov, rfl, x0, x1, x2, x3, rfl, hv⟩, f2⟩
 have hx := num_cells hv
 subst hx
 obtain ⟨zn, zf, zs, za, zc, zcap, e4⟩ := hv.lit
 simp at e4
 obtain ⟨rfl, rfl, rfl, rfl⟩ := e4
 have F2 := hid f2
 have h0 := H8.out
 clear hv f2
 simp only [stC]
 go_wp2
 go_ret
 exact ⟨rfl, ((F1.out.trans F2.out fid2).alloc _).alloc _⟩
end
section
theorem fold_take (m : Nat) (l : List Int) : ∀ acc : List Int, acc.length <= m -> l.foldl (addE m) acc = acc ++ l.take (m - acc.length) := by
 induction l with
 | nil => intro acc _; simp
 | cons x l ih =>
  intro acc h
  by_cases hm : m <= acc.length
  ·have h0 : m - acc.length = 0 := by omega
   rw [fold_full (m : Int) (x :: l) acc (by omega), h0]
   simp
  ·obtain ⟨d, hd⟩ : ∃ d, m - acc.length = d + 1 := ⟨m - acc.length - 1, by omega⟩
   rw [List.foldl_cons, show addE (m : Int) acc x = acc ++ [x] by unfold addE; rw [if_neg (by omega)], ih _ (by simp; omega)]
   have h1 : m - (acc ++ [x]).length = d := by simp; omega
   rw [h1, hd, List.take_succ_cons]
   simp

theorem flat_take (t : KT) (T : VT) (m : Nat) : flatE t T m = (flE t T).take m := by
 unfold flatE
 rw [fold_take m _ [] (Nat.zero_le _)]
 simp
end
section
def andThen (o : Out) (f : (Nat -> Int) -> Out) : Out := match o with
 | .ok false r => f r
 | .ok true r => .ok true r
 | .bad e n => .bad e n

theorem steps_bad (rep : List Ins -> Nat -> (Nat -> Int) -> Out) (s : Int) (hrep : ∀ l n r e m, rep l n r = .bad e m -> e = 14 \/ e = 16) :
  ∀ (l : List Ins) (k : Nat) (r : Nat -> Int) (e : Nat) (m : Int), stepsE rep s l k r = .bad e m -> e = 14 \/ e = 16
 | [], k, r, e, m, h => by simp [stepsE] at h
 | x :: l, k + 1, r, e, m, h => steps_bad rep s hrep l k r e m (by rw [stepsE] at h; exact h)
 | x :: l, 0, r, e, m, h => by
  have ih := fun k r h => steps_bad rep s hrep l k r e m h
  rw [stepsE] at h
  split at h
  ·cases h
  ·split at h
   ·exact ih _ _ h
   ·split at h
    ·split at h
     ·cases h
     ·exact ih _ _ h
     ·rename_i e2 m2 h2
      cases h
      exact hrep _ _ _ _ _ h2
    ·split at h
     ·split at h
      ·exact ih _ _ h
      ·cases h; exact .inr rfl
     ·split at h
      ·exact ih _ _ h
      ·cases h; exact .inl rfl

theorem rep_bad (f : (Nat -> Int) -> Out) (hf : ∀ r e m, f r = .bad e m -> e = 14 \/ e = 16) : ∀ (n : Nat) (r : Nat -> Int) (e : Nat) (m : Int), repE f n r = .bad e m -> e = 14 \/ e = 16
 | 0, r, e, m, h => by simp [repE] at h
 | n + 1, r, e, m, h => by
  rw [repE] at h
  split at h
  ·exact rep_bad f hf n _ e m h
  ·cases h
  ·rename_i e2 m2 h2
   cases h
   exact hf _ _ _ h2

theorem run_bad (s : Int) : ∀ (d : Nat) (l : List Ins) (r : Nat -> Int) (e : Nat) (m : Int), runE s d l r = .bad e m -> e = 14 \/ e = 16
 | 0, l, r, e, m, h => steps_bad _ s (fun _ _ _ _ _ h => by cases h) l 0 r e m h
 | d + 1, l, r, e, m, h => steps_bad _ s (fun l n r e m h => rep_bad _ (fun r e m h => run_bad s d l r e m h) n r e m h) l 0 r e m h
end
section
theorem rmC_congr {m m' : RM} (hr : ∀ k, k < 16 -> m.r k = m'.r k) (hs : m.s = m'.s) (ho : m.over = m'.over) (he : m.e = m'.e) (hq : m.q = m'.q) : rmC m = rmC m' := by
 unfold rmC
 rw [hr 0 (by omega), hr 1 (by omega), hr 2 (by omega), hr 3 (by omega), hr 4 (by omega), hr 5 (by omega), hr 6 (by omega), hr 7 (by omega), hr 8 (by omega), hr 9 (by omega), hr 10 (by omega), hr 11 (by omega), hr 12 (by omega), hr 13 (by omega), hr 14 (by omega), hr 15 (by omega), hs, ho, he, hq]

theorem RMAt.congr {w : World} {g : Nat} {m m' : RM} (h : RMAt w g m) (e : rmC m = rmC m') : RMAt w g m' := by
 unfold RMAt at *
 rw [<- e]; exact h

def rmJ (F : List Int) (j : Nat) : RM := ⟨fun k => if 8 <= k /\ k - 8 < j then F.getD (k - 8) 0 else 0, sumE (F.take (min j 64)), false, 0, 0⟩

theorem sum_snoc (l : List Int) (x : Int) : sumE (l ++ [x]) = wrap64 (sumE l + x) := by
 unfold sumE
 rw [List.foldl_append]; rfl

theorem rmJ_sum (F : List Int) (j : Nat) (x : Int) (hx : F[j]? = some x) (hj : j < 64) : (rmJ F (j + 1)).s = wrap64 ((rmJ F j).s + x) := by
 show sumE (F.take (min (j + 1) 64)) = wrap64 (sumE (F.take (min j 64)) + x)
 rw [show min (j + 1) 64 = j + 1 by omega, show min j 64 = j by omega, List.take_add_one, hx]
 exact sum_snoc _ _

theorem rmJ_set (F : List Int) (j : Nat) (x : Int) (hx : F[j]? = some x) (hj : j < 8) :
  rmC { (rmJ F j) with r := upd (rmJ F j).r (8 + j) x, s := wrap64 ((rmJ F j).s + x) } = rmC (rmJ F (j + 1)) := by
 refine rmC_congr (fun k hk => ?_) (rmJ_sum F j x hx (by omega)).symm rfl rfl rfl
 show (if k = 8 + j then x else if 8 <= k /\ k - 8 < j then F.getD (k - 8) 0 else 0) = if 8 <= k /\ k - 8 < j + 1 then F.getD (k - 8) 0 else 0
 by_cases h1 : k = 8 + j
 ·rw [if_pos h1, if_pos (by omega), show k - 8 = j by omega, List.getD_eq_getElem?_getD, hx]; rfl
 ·rw [if_neg h1]
  by_cases h2 : 8 <= k /\ k - 8 < j
  ·rw [if_pos h2, if_pos (by omega)]
  ·rw [if_neg h2, if_neg (by omega)]

theorem rmJ_add (F : List Int) (j : Nat) (x : Int) (hx : F[j]? = some x) (h8 : 8 <= j) (hj : j < 64) :
  rmC { (rmJ F j) with s := wrap64 ((rmJ F j).s + x) } = rmC (rmJ F (j + 1)) := by
 refine rmC_congr (fun k hk => ?_) (rmJ_sum F j x hx hj).symm rfl rfl rfl
 show (if 8 <= k /\ k - 8 < j then F.getD (k - 8) 0 else 0) = if 8 <= k /\ k - 8 < j + 1 then F.getD (k - 8) 0 else 0
 by_cases h2 : 8 <= k /\ k - 8 < j
 ·rw [if_pos h2, if_pos (by omega)]
 ·rw [if_neg h2, if_neg (by omega)]

theorem rmJ_skip (F : List Int) (j : Nat) (hj : 64 <= j) : rmC (rmJ F j) = rmC (rmJ F (j + 1)) := by
 refine rmC_congr (fun k hk => ?_) ?_ rfl rfl rfl
 ·show (if 8 <= k /\ k - 8 < j then F.getD (k - 8) 0 else 0) = if 8 <= k /\ k - 8 < j + 1 then F.getD (k - 8) 0 else 0
  by_cases h2 : 8 <= k /\ k - 8 < j
  ·rw [if_pos h2, if_pos (by omega)]
  ·rw [if_neg h2, if_neg (by omega)]
 ·show sumE (F.take (min j 64)) = sumE (F.take (min (j + 1) 64))
  rw [show min (j + 1) 64 = 64 by omega, show min j 64 = 64 by omega]

def rmL (s : Nat -> Int) (fl : List Int) : RM := ⟨loadE s fl, sumE fl, false, 0, 0⟩

theorem rmJ_zero (F : List Int) : rmC (rmJ F 0) = rmC ⟨fun _ => 0, 0, false, 0, 0⟩ := by
 refine rmC_congr (fun k hk => ?_) rfl rfl rfl rfl
 show (if 8 <= k /\ k - 8 < 0 then F.getD (k - 8) 0 else 0) = 0
 rw [if_neg (by omega)]

theorem rmJ_load (s : Nat -> Int) (F : List Int) : rmC { (rmJ F F.length) with r := fun k => if k < 8 then s k else (rmJ F F.length).r k } = rmC (rmL s (F.take 64)) := by
 refine rmC_congr (fun k hk => ?_) ?_ rfl rfl rfl
 ·show (if k < 8 then s k else if 8 <= k /\ k - 8 < F.length then F.getD (k - 8) 0 else 0) = if k < 8 then s k else if k < 8 + (F.take 64).length then (F.take 64).getD (k - 8) 0 else 0
  by_cases h8 : k < 8
  ·rw [if_pos h8, if_pos h8]
  ·rw [if_neg h8, if_neg h8]
   by_cases h1 : k - 8 < F.length
   ·rw [if_pos (by omega), if_pos (by rw [List.length_take]; omega), List.getD_eq_getElem?_getD, List.getD_eq_getElem?_getD, List.getElem?_take, if_pos (by omega)]
   ·rw [if_neg (by omega), if_neg (by rw [List.length_take]; omega)]
 ·show sumE (F.take (min F.length 64)) = sumE (F.take 64)
  by_cases h : F.length <= 64
  ·rw [show min F.length 64 = F.length by omega, List.take_length, List.take_of_length_le h]
  ·rw [show min F.length 64 = 64 by omega]

theorem plays_copy (w : World) (g : Nat) (ty : TypeId) (n0 : Nat) (s : Nat -> Int) (m : RM) (hm : RMAt w g m) (hs : ∀ k, k < 8 -> w.cell? ⟨n0, 7 + k, none⟩ = some (.int .i64 (s k))) :
  ∃ w', (Builtin.copy_ #[28, 28] ty #[.slice (some ⟨g, 0, none⟩) 16 16, .slice (some ⟨n0, 7, none⟩) 8 8]).run Try.prog w = .ok (.int .i64 8) w' /\ RMAt w' g { m with r := fun k => if k < 8 then s k else m.r k } /\ Fr (fun k => k = g) w w' := by
 have := run_copy_row (P := Try.prog) w 28 28 ty 2 g 0 16 16 ⟨n0, 7, none⟩ 8 8 (rmC m) 50 (stC s).toList Try.underlying28 Try.infoInt64 hm rfl
  (by
   intro j v hj
   rw [pplain_add]
   have hj8 : j < 8 := by have := (List.getElem?_eq_some_iff.1 hj).1; simpa [stC] using this
   rw [hs j hj8]
   have : j = 0 \/ j = 1 \/ j = 2 \/ j = 3 \/ j = 4 \/ j = 5 \/ j = 6 \/ j = 7 := by omega
   rcases this with rfl | rfl | rfl | rfl | rfl | rfl | rfl | rfl <;> exact hj) (by simp [stC, rmC]) (by
   intro v hv
   simp only [stC, List.mem_cons, List.not_mem_nil, or_false] at hv
   rcases hv with rfl | rfl | rfl | rfl | rfl | rfl | rfl | rfl <;> rfl)
 exact ⟨_, this, setRow_heap w g _ _ _ _ hm, Fr.setRow (S := fun k => k = g) (Fr.refl _ _) (fun _ => rfl) _⟩

theorem regs_nums (w : World) (g : Nat) (m : RM) (hm : RMAt w g m) (hr : RIn m.r) : Nums (fun k => k = g) w (regs m.r) (.slice (some ⟨g, 8, none⟩) 8 8) := by
 refine ⟨by simp [regs], ?_, .inr ⟨g, 8, 8, rfl, by simp [regs], by simp [regs], ?_⟩⟩
 ·intro x hx
  simp only [regs, List.mem_cons, List.not_mem_nil, or_false] at hx
  rcases hx with rfl | rfl | rfl | rfl | rfl | rfl | rfl | rfl <;> exact hr _
 ·intro j x hj
  have hj8 : j < 8 := by have := (List.getElem?_eq_some_iff.1 hj).1; simpa [regs] using this
  rw [hm.cell (8 + j) (by omega)]
  have : j = 0 \/ j = 1 \/ j = 2 \/ j = 3 \/ j = 4 \/ j = 5 \/ j = 6 \/ j = 7 := by omega
  rcases this with rfl | rfl | rfl | rfl | rfl | rfl | rfl | rfl <;> (simp only [regs, List.getElem?_cons_zero, List.getElem?_cons_succ, Option.some.injEq] at hj; rw [<- hj])

theorem ops_check (l : List Ins) (h : pcheckE l = 0) : ∀ x ∈ l, x.op <= 11 := by
 intro x hx
 obtain ⟨i, hi⟩ := List.getElem?_of_mem hx
 have h2 := ((checkE_zero l).1 h).2.1 i x hi
 unfold insE at h2
 split at h2
 ·cases h2
 ·omega

theorem plays_case (t a : KT) (p : List Ins) (T : VT) (s : Nat -> Int) (m' : RM) (h0 : pcheckE p = 0) (h1 : isVal t T = true)
  (h : RMpost (runE (sumE ((flE t T).take 64)) 1 p (loadE s ((flE t T).take 64))) (rmL s ((flE t T).take 64)) m') :
  (∃ r b, runE (sumE ((flE t T).take 64)) 1 p (loadE s ((flE t T).take 64)) = .ok b r /\ m'.r = r /\ m'.e = 0 /\ playE t a p T s = (r, ⟨0, 0, BuildE (regs r) a⟩)) \/
   ∃ (e : Nat) (n : Int), m'.e = (e : Int) /\ m'.q = n /\ (e = 14 \/ e = 16) /\ playE t a p T s = (s, ⟨e, n, zeroV⟩) := by
 have hfl : flatE t T 64 = (flE t T).take 64 := flat_take t T 64
 cases hr : runE (sumE ((flE t T).take 64)) 1 p (loadE s ((flE t T).take 64)) with
 | ok b r =>
  rw [hr] at h
  refine .inl ⟨r, b, rfl, ?_, ?_, playE_ok h0 h1 hfl hr⟩
  ·rw [show m' = _ from h]
  ·rw [show m' = _ from h]; rfl
 | bad e n =>
  rw [hr] at h
  exact .inr ⟨e, n, h.2.1, h.2.2, run_bad _ _ _ _ _ _ hr, playE_bad h0 h1 hfl hr⟩
end
end Go.Proofs.Ytohfejpjjjaejaa
