/-
  PlayNone: what the law rests on.
-/
import Derived.Test.YtedadjlmmnikaaaML
import Derived.Test.YtedadjlmmnikaaaMI
import Derived.Test.YtedadjlmmnikaaaMP
set_option linter.unusedSimpArgs false
set_option linter.unusedVariables false
namespace Go.Proofs.Ytedadjlmmnikaaa
open Go.RowKit
set_option linter.unusedVariables false
set_option linter.unusedSimpArgs false

theorem fold_take (m : Nat) (l : List Int) : ∀ acc : List Int, acc.length ≤ m → l.foldl (addE m) acc = acc ++ l.take (m - acc.length) := by
  induction l with
  | nil => intro acc _; simp
  | cons x l ih =>
    intro acc h
    by_cases hm : m ≤ acc.length
    · have h0 : m - acc.length = 0 := by omega
      rw [fold_full (m : Int) (x :: l) acc (by omega), h0]
      simp
    · obtain ⟨d, hd⟩ : ∃ d, m - acc.length = d + 1 := ⟨m - acc.length - 1, by omega⟩
      rw [List.foldl_cons, show addE (m : Int) acc x = acc ++ [x] by unfold addE; rw [if_neg (by omega)], ih _ (by simp; omega)]
      have h1 : m - (acc ++ [x]).length = d := by simp; omega
      rw [h1, hd, List.take_succ_cons]
      simp

theorem flat_take (t : KT) (T : VT) (m : Nat) : flatE t T m = (flE t T).take m := by
  unfold flatE
  rw [fold_take m _ [] (Nat.zero_le _)]
  simp

theorem check_none : pcheckE [] = 0 := by decide +kernel

/-- The first eight, then noughts. -/
def eightE (l : List Int) : List Int := [l.getD 0 0, l.getD 1 0, l.getD 2 0, l.getD 3 0, l.getD 4 0, l.getD 5 0, l.getD 6 0, l.getD 7 0]

theorem regs_load (s : Nat → Int) (l : List Int) : regs (loadE s (l.take 64)) = eightE (l.take 8) := by
  have key : ∀ k, k < 8 → loadE s (l.take 64) (8 + k) = (l.take 8).getD k 0 := by
    intro k hk
    have e1 : ∀ m, k < m → (l.take m).getD k 0 = l.getD k 0 := by
      intro m hm
      rw [List.getD_eq_getElem?_getD, List.getD_eq_getElem?_getD, List.getElem?_take, if_pos hm]
    rw [e1 8 hk]
    unfold loadE
    rw [if_neg (by omega), show 8 + k - 8 = k by omega, e1 64 (by omega)]
    split
    · rfl
    · rename_i h
      rw [List.getD_eq_getElem?_getD, List.getElem?_eq_none (by simp at h; omega)]
      rfl
  unfold regs eightE
  rw [← key 0 (by omega), ← key 1 (by omega), ← key 2 (by omega), ← key 3 (by omega), ← key 4 (by omega), ← key 5 (by omega), ← key 6 (by omega), ← key 7 (by omega)]

theorem play_none (t a : KT) (T : VT) (s : Nat → Int) (h : isVal t T = true) : ∃ r, playE t a [] T s = (r, ⟨0, 0, BuildE (eightE (flatE t T 8)) a⟩) ∧ ∀ i, i < 8 → r i = s i := by
  refine ⟨loadE s (flatE t T 64), ?_, fun i hi => by unfold loadE; rw [if_pos hi]⟩
  obtain ⟨b, hb⟩ : ∃ b, runE (sumE (flatE t T 64)) 1 [] (loadE s (flatE t T 64)) = .ok b (loadE s (flatE t T 64)) := ⟨_, by rw [runE_steps]; rfl⟩
  rw [playE_ok check_none h rfl hb]
  have h64 : flatE t T 64 = (flE t T).take 64 := flat_take t T 64
  have h8 : flatE t T 8 = (flE t T).take 8 := flat_take t T 8
  rw [h64, h8, regs_load]

end Go.Proofs.Ytedadjlmmnikaaa

/-
  PlayNone, walked.
-/
namespace Go.Proofs.Ytedadjlmmnikaaa
open Go.RowKit
set_option linter.unusedVariables false
set_option linter.unusedSimpArgs false

def eightC (l : List Int) : Array Value := #[.int .i64 (l.getD 0 0), .int .i64 (l.getD 1 0), .int .i64 (l.getD 2 0), .int .i64 (l.getD 3 0), .int .i64 (l.getD 4 0), .int .i64 (l.getD 5 0), .int .i64 (l.getD 6 0), .int .i64 (l.getD 7 0)]

theorem eight_nums (l : List Int) (h : l.length ≤ 8) : ((#[.int .i64 0, .int .i64 0, .int .i64 0, .int .i64 0, .int .i64 0, .int .i64 0, .int .i64 0, .int .i64 0] : Array Value).toList.take 0 ++ l.map (Value.int .i64) ++ (#[.int .i64 0, .int .i64 0, .int .i64 0, .int .i64 0, .int .i64 0, .int .i64 0, .int .i64 0, .int .i64 0] : Array Value).toList.drop (0 + (l.map (Value.int .i64)).length)).toArray = eightC l := by
  match l with
  | [] => rfl
  | [a] => rfl
  | [a, b] => rfl
  | [a, b, c] => rfl
  | [a, b, c, d] => rfl
  | [a, b, c, d, e] => rfl
  | [a, b, c, d, e, f] => rfl
  | [a, b, c, d, e, f, g] => rfl
  | [a, b, c, d, e, f, g, i] => rfl
  | a :: b :: c :: d :: e :: f :: g :: i :: j :: r => simp at h

theorem copy_eight (B : Nat → Prop) (w : World) (g : Nat) (ty : TypeId) (nv : Value) (ns : List Int) (h8 : ns.length ≤ 8) (hm : w.heap[g]? = some (.cells #[.int .i64 0, .int .i64 0, .int .i64 0, .int .i64 0, .int .i64 0, .int .i64 0, .int .i64 0, .int .i64 0] 26 (0, 0))) (hn : NumsAt B w ns nv) :
    ∃ n w', (Builtin.copy_ #[28, 28] ty #[.slice (some ⟨g, 0, none⟩) 8 8, nv]).run Try.prog w = .ok n w' ∧ w'.heap[g]? = some (.cells (eightC ns) 26 (0, 0)) ∧ Fr (fun k => k = g) w w' := by
  obtain ⟨hl, ⟨rfl, a, c, rfl⟩ | ⟨b, o, cap, hB, rfl, hle, hc⟩⟩ := hn
  · exact ⟨_, w, run_copy_none (P := Try.prog) w 28 28 ty 2 _ a 8 8 0 c Try.underlying28 Try.infoInt64 rfl, hm, Fr.refl _ _⟩
  · have hlen : (ns.map (Value.int .i64)).length = Nat.min ns.length 8 := by
      rw [List.length_map]
      exact (Nat.min_eq_left h8).symm
    have := run_copy_row (P := Try.prog) w 28 28 ty 2 g 0 8 8 ⟨b, o, none⟩ ns.length cap #[.int .i64 0, .int .i64 0, .int .i64 0, .int .i64 0, .int .i64 0, .int .i64 0, .int .i64 0, .int .i64 0] 26 (ns.map (Value.int .i64)) Try.underlying28 Try.infoInt64 hm hlen
      (by
        intro j v hj
        rw [pplain_add]
        simp only [List.getElem?_map, Option.map_eq_some_iff] at hj
        obtain ⟨x, hx, rfl⟩ := hj
        exact hc j x hx) (by simp; omega) (by
        intro v hv
        obtain ⟨x, _, rfl⟩ := List.mem_map.1 hv
        rfl)
    rw [eight_nums ns h8] at this
    exact ⟨_, _, this, setRow_heap w g _ _ _ _ hm, Fr.setRow (S := fun k => k = g) (Fr.refl _ _) (fun _ => rfl) _⟩

theorem nums_eight {w : World} {g : Nat} {l : List Int} (h : w.heap[g]? = some (.cells (eightC l) 26 (0, 0))) (hr : ∀ x ∈ l, -9223372036854775808 ≤ x ∧ x ≤ 9223372036854775807) : Nums (fun _ => True) w (eightE l) (.slice (some ⟨g, 0, none⟩) 8 8) := by
  have hg : ∀ k, -9223372036854775808 ≤ l.getD k 0 ∧ l.getD k 0 ≤ 9223372036854775807 := fun k => by
    rw [List.getD_eq_getElem?_getD]
    cases hk : l[k]? with
    | none => simp
    | some x => exact hr x (List.mem_of_getElem? hk)
  refine ⟨by simp [eightE], ?_, .inr ⟨g, 0, 8, trivial, by simp [eightE], by simp [eightE], ?_⟩⟩
  · intro x hx
    simp only [eightE, List.mem_cons, List.not_mem_nil, or_false] at hx
    rcases hx with rfl | rfl | rfl | rfl | rfl | rfl | rfl | rfl <;> exact hg _
  · intro j x hj
    have hj8 : j < 8 := by have := (List.getElem?_eq_some_iff.1 hj).1; simpa [eightE] using this
    rw [Nat.zero_add]
    have : j = 0 ∨ j = 1 ∨ j = 2 ∨ j = 3 ∨ j = 4 ∨ j = 5 ∨ j = 6 ∨ j = 7 := by omega
    rcases this with rfl | rfl | rfl | rfl | rfl | rfl | rfl | rfl <;> (simp only [eightE, List.getElem?_cons_zero, List.getElem?_cons_succ, Option.some.injEq] at hj; rw [← hj]; exact pcells_row h _ _ rfl)

/-- The region that copies the numbers. -/
def NoS (w0 : World) (gl : Nat) (fl : List Int) : List Value → World → Prop
  | [], wx => Fr (fun _ => False) w0 wx
  | [v], wx => Fr (fun _ => False) w0 wx ∧ NumsAt (fun k => w0.heap.size ≤ k) wx fl v
  | _, wx => Fr (fun k => k = gl) w0 wx ∧ wx.heap[gl]? = some (.cells (eightC fl) 26 (0, 0))

theorem NoS.fr {w0 : World} {gl : Nat} {fl : List Int} {l : List Value} {wx : World} (h : NoS w0 gl fl l wx) : Fr (fun k => k = gl) w0 wx := by
  match l, h with
  | [], h => exact Fr.mono h (fun _ _ h => h.elim)
  | [_], h => exact h.1.mono (fun _ _ h => h.elim)
  | _ :: _ :: _, h => exact h.1

/-- The region that builds and compares. -/
def NrS (w0 : World) (BV : VT) : List Value → World → Prop
  | [v], wx => Fr (fun _ => False) w0 wx ∧ VShows (fun k => w0.heap.size ≤ k) wx BV v
  | _, wx => Fr (fun _ => False) w0 wx

theorem NrS.fr {w0 : World} {BV : VT} {l : List Value} {wx : World} (h : NrS w0 BV l wx) : Fr (fun _ => False) w0 wx := by
  match l, h with
  | [], h => exact h
  | [_], h => exact h.1
  | _ :: _ :: _, h => exact h

attribute [local go_sem] run_store_float

set_option maxRecDepth 100000 in
set_option maxHeartbeats 8000000 in
theorem none_walk (x : S11) (a0 a1 a2 b0 b1 b2 pv av : Value) (w : World) (hx : S11Shows w x a0 a1 a2 b0 b1 b2 pv av) (hli : lightS x = true) :
    Calls Try.prog 7 #[.agg (s11C x.st a0 a1 a2 b0 b1 b2 pv av)] w fun e w' => e = .returned (.bool true) ∧ Fr (fun _ => False) w w' := by
  have HX := Lib.hid hx
  have HLI := Lib.hid hli
  have hargs : x.args.length ≤ 40 := by
    unfold lightS at hli
    simp at hli
    exact hli.2.2.2
  have HARG := Lib.hid hargs
  clear hx hli hargs
  simp only [s11C]
  go_enter Try.func7, Try.ntmps7
  go_wp2_with fail
  refine (pawake_any _).mono ?_
  rintro e w1 ⟨rfl, f1⟩
  have F1 : Hid (Fr (fun _ => False) w w1 ∧ w1.heap[w.heap.size]? = some (.cells (s11C x.st a0 a1 a2 b0 b1 b2 pv av) 30 (0, 0))) := Lib.hid ⟨((Fr.refl (fun _ => False) _).alloc _).trans f1 (fun _ _ h => h), pbox_kept (heap_alloc_new w _) f1 (fun h => h)⟩
  generalize hn : w.heap.size = n0 at *
  have N0 := Lib.hid hn
  clear f1 hn
  have HCELLS := Lib.hid (fun wx (f : Fr (fun _ => False) w1 wx) => pbox_kept F1.out.2 f (fun h => h))
  have qq := HCELLS.out w1 (Fr.refl _ _)
  have c0 : w1.cell? ⟨n0, 0, none⟩ = some a0 := pcells_row qq 0 _ rfl
  have c1 : w1.cell? ⟨n0, 1, none⟩ = some a1 := pcells_row qq 1 _ rfl
  have c2 : w1.cell? ⟨n0, 2, none⟩ = some a2 := pcells_row qq 2 _ rfl
  have c3 : w1.cell? ⟨n0, 3, none⟩ = some b0 := pcells_row qq 3 _ rfl
  have c4 : w1.cell? ⟨n0, 4, none⟩ = some b1 := pcells_row qq 4 _ rfl
  have c5 : w1.cell? ⟨n0, 5, none⟩ = some b2 := pcells_row qq 5 _ rfl
  have c6 : w1.cell? ⟨n0, 6, none⟩ = some pv := pcells_row qq 6 _ rfl
  have c7 : w1.cell? ⟨n0, 7, none⟩ = some (.int .i64 (x.st 0)) := pcells_row qq 7 _ rfl
  have c8 : w1.cell? ⟨n0, 8, none⟩ = some (.int .i64 (x.st 1)) := pcells_row qq 8 _ rfl
  have c9 : w1.cell? ⟨n0, 9, none⟩ = some (.int .i64 (x.st 2)) := pcells_row qq 9 _ rfl
  have c10 : w1.cell? ⟨n0, 10, none⟩ = some (.int .i64 (x.st 3)) := pcells_row qq 10 _ rfl
  have c11 : w1.cell? ⟨n0, 11, none⟩ = some (.int .i64 (x.st 4)) := pcells_row qq 11 _ rfl
  have c12 : w1.cell? ⟨n0, 12, none⟩ = some (.int .i64 (x.st 5)) := pcells_row qq 12 _ rfl
  have c13 : w1.cell? ⟨n0, 13, none⟩ = some (.int .i64 (x.st 6)) := pcells_row qq 13 _ rfl
  have c14 : w1.cell? ⟨n0, 14, none⟩ = some (.int .i64 (x.st 7)) := pcells_row qq 14 _ rfl
  have c15 : w1.cell? ⟨n0, 15, none⟩ = some av := pcells_row qq 15 _ rfl
  clear qq
  go_wp2_with fail
  refine (slight_any x a0 a1 a2 b0 b1 b2 pv av w1 (HX.out.fr F1.out.1)).mono ?_
  rintro e w2 ⟨rfl, f2⟩
  rw [HLI.out]
  have FX0 := Lib.hid (F1.out.1.trans f2 (fun _ _ h => h))
  have FX1 := Lib.hid f2
  clear f2 c0 c1 c2 c3 c4 c5 c6 c7 c8 c9 c10 c11 c12 c13 c14 c15
  have qq := HCELLS.out w2 FX1.out
  have c0 : w2.cell? ⟨n0, 0, none⟩ = some a0 := pcells_row qq 0 _ rfl
  have c1 : w2.cell? ⟨n0, 1, none⟩ = some a1 := pcells_row qq 1 _ rfl
  have c2 : w2.cell? ⟨n0, 2, none⟩ = some a2 := pcells_row qq 2 _ rfl
  have c3 : w2.cell? ⟨n0, 3, none⟩ = some b0 := pcells_row qq 3 _ rfl
  have c4 : w2.cell? ⟨n0, 4, none⟩ = some b1 := pcells_row qq 4 _ rfl
  have c5 : w2.cell? ⟨n0, 5, none⟩ = some b2 := pcells_row qq 5 _ rfl
  have c6 : w2.cell? ⟨n0, 6, none⟩ = some pv := pcells_row qq 6 _ rfl
  have c7 : w2.cell? ⟨n0, 7, none⟩ = some (.int .i64 (x.st 0)) := pcells_row qq 7 _ rfl
  have c8 : w2.cell? ⟨n0, 8, none⟩ = some (.int .i64 (x.st 1)) := pcells_row qq 8 _ rfl
  have c9 : w2.cell? ⟨n0, 9, none⟩ = some (.int .i64 (x.st 2)) := pcells_row qq 9 _ rfl
  have c10 : w2.cell? ⟨n0, 10, none⟩ = some (.int .i64 (x.st 3)) := pcells_row qq 10 _ rfl
  have c11 : w2.cell? ⟨n0, 11, none⟩ = some (.int .i64 (x.st 4)) := pcells_row qq 11 _ rfl
  have c12 : w2.cell? ⟨n0, 12, none⟩ = some (.int .i64 (x.st 5)) := pcells_row qq 12 _ rfl
  have c13 : w2.cell? ⟨n0, 13, none⟩ = some (.int .i64 (x.st 6)) := pcells_row qq 13 _ rfl
  have c14 : w2.cell? ⟨n0, 14, none⟩ = some (.int .i64 (x.st 7)) := pcells_row qq 14 _ rfl
  have c15 : w2.cell? ⟨n0, 15, none⟩ = some av := pcells_row qq 15 _ rfl
  clear qq
  go_wp2_with fail
  refine (body_make x a0 a1 a2 b0 b1 b2 pv av w2 (HX.out.fr FX0.out) HARG.out).mono ?_
  rintro e w6 ⟨⟨x0, x1, x2, x3, y0, y1, y2, y3, pb, lb, v0, v1, v2, v3, rfl, hT, hA, hlb, hpb, hkb, hV⟩, f6⟩
  obtain ⟨r0, r1, r2, r3, r4, r5, r6, r7, eT⟩ := hT.four
  obtain ⟨s0, s1, s2, s3, s4, s5, s6, s7, eA⟩ := hA.four
  obtain ⟨zn, zf, zs, za, zc, zcap, eV⟩ := hV.lit
  obtain ⟨ua', uc', eP, hzP⟩ := hpb.shape
  clear hzP
  simp at eT eA eV
  obtain ⟨rfl, rfl, rfl, rfl⟩ := eT
  obtain ⟨rfl, rfl, rfl, rfl⟩ := eA
  obtain ⟨rfl, rfl, rfl, rfl⟩ := eV
  subst eP
  have F6 := Lib.hid f6
  have HTAV := Lib.hid (And.intro hT (And.intro hA hV))
  clear hT hA hlb hpb hkb hV f6 c0 c1 c2 c3 c4 c5 c6 c7 c8 c9 c10 c11 c12 c13 c14 c15
  obtain ⟨w7, hw7⟩ : ∃ w7, w7 = (w6.alloc (.cells #[.int .u8 r0, .int .i64 r1, .slice r2 r3 r4, .slice r5 r6 r7, .int .u8 s0, .int .i64 s1, .slice s2 s3 s4, .slice s5 s6 s7, .slice ua' lb.length uc'] 40)).alloc (.cells #[.int .i64 zn, .float .f64 zf, .string zs, .slice za zc zcap] 44) := ⟨_, rfl⟩
  have F7 : Hid (Fr (fun _ => False) w6 w7 ∧ w7.heap[w6.heap.size]? = some (.cells #[.int .u8 r0, .int .i64 r1, .slice r2 r3 r4, .slice r5 r6 r7, .int .u8 s0, .int .i64 s1, .slice s2 s3 s4, .slice s5 s6 s7, .slice ua' lb.length uc'] 40 (0, 0)) ∧ w7.heap[w6.heap.size + 1]? = some (.cells #[.int .i64 zn, .float .f64 zf, .string zs, .slice za zc zcap] 44 (0, 0))) := Lib.hid (by
    have f : ∀ (w : World) (o : Obj), Fr (fun _ => False) w (w.alloc o) := fun w o => (Fr.refl _ _).alloc _
    rw [hw7]
    exact ⟨(f _ _).alloc _, pbox_kept (heap_alloc_new _ _) (f _ _) (fun h => h), new_two _ _ _⟩)
  go_upto_region 6 with fail
  rw [← hw7]
  clear hw7
  generalize hgb : w6.heap.size = gb at *
  have GB := Lib.hid hgb
  clear hgb
  have qd := pcells_row F7.out.2.1 8 _ rfl
  have zd : w7.frozen? ⟨gb, 8, none⟩ = false := by have := F7.out.2.1; simp [World.frozen?, this]
  obtain ⟨w8, hw8⟩ : ∃ w8, w8 = w7.setCell ⟨gb, 8, none⟩ (.slice none 0 0) := ⟨_, rfl⟩
  have F8 : Hid (Fr (fun k => k = gb) w7 w8 ∧ w8.heap[gb]? = some (.cells #[.int .u8 r0, .int .i64 r1, .slice r2 r3 r4, .slice r5 r6 r7, .int .u8 s0, .int .i64 s1, .slice s2 s3 s4, .slice s5 s6 s7, .slice none 0 0] 40 (0, 0)) ∧ w8.heap[gb + 1]? = some (.cells #[.int .i64 zn, .float .f64 zf, .string zs, .slice za zc zcap] 44 (0, 0))) := Lib.hid (by
    have fs : Fr (fun k => k = gb) w7 w8 := by rw [hw8]; exact Fr.setCell (S := fun k => k = gb) (p := ⟨gb, 8, none⟩) (Fr.refl _ _) (fun _ => rfl) _
    refine ⟨fs, ?_, pbox_kept F7.out.2.2 fs (fun h => by omega)⟩
    rw [hw8]; exact psetCell_row 8 _ F7.out.2.1)
  go_upto_region 7 with fail
  rw [← hw8]
  clear hw8 qd zd
  have F68 : Hid (Fr (fun k => k = gb) w6 w8) := Lib.hid ((F7.out.1.mono (fun _ _ h => h.elim)).trans F8.out.1 (fun _ _ h => h))
  have FX8 : Hid (Fr (fun _ => False) w2 w8) := Lib.hid (Fr.new F6.out (fun k hk => by have := GB.out; have := F6.out.size; omega) F68.out)
  have qq := HCELLS.out w8 (FX1.out.trans FX8.out (fun _ _ h => h))
  have c0 : w8.cell? ⟨n0, 0, none⟩ = some a0 := pcells_row qq 0 _ rfl
  have c1 : w8.cell? ⟨n0, 1, none⟩ = some a1 := pcells_row qq 1 _ rfl
  have c2 : w8.cell? ⟨n0, 2, none⟩ = some a2 := pcells_row qq 2 _ rfl
  have c3 : w8.cell? ⟨n0, 3, none⟩ = some b0 := pcells_row qq 3 _ rfl
  have c4 : w8.cell? ⟨n0, 4, none⟩ = some b1 := pcells_row qq 4 _ rfl
  have c5 : w8.cell? ⟨n0, 5, none⟩ = some b2 := pcells_row qq 5 _ rfl
  have c6 : w8.cell? ⟨n0, 6, none⟩ = some pv := pcells_row qq 6 _ rfl
  have c7 : w8.cell? ⟨n0, 7, none⟩ = some (.int .i64 (x.st 0)) := pcells_row qq 7 _ rfl
  have c8 : w8.cell? ⟨n0, 8, none⟩ = some (.int .i64 (x.st 1)) := pcells_row qq 8 _ rfl
  have c9 : w8.cell? ⟨n0, 9, none⟩ = some (.int .i64 (x.st 2)) := pcells_row qq 9 _ rfl
  have c10 : w8.cell? ⟨n0, 10, none⟩ = some (.int .i64 (x.st 3)) := pcells_row qq 10 _ rfl
  have c11 : w8.cell? ⟨n0, 11, none⟩ = some (.int .i64 (x.st 4)) := pcells_row qq 11 _ rfl
  have c12 : w8.cell? ⟨n0, 12, none⟩ = some (.int .i64 (x.st 5)) := pcells_row qq 12 _ rfl
  have c13 : w8.cell? ⟨n0, 13, none⟩ = some (.int .i64 (x.st 6)) := pcells_row qq 13 _ rfl
  have c14 : w8.cell? ⟨n0, 14, none⟩ = some (.int .i64 (x.st 7)) := pcells_row qq 14 _ rfl
  have c15 : w8.cell? ⟨n0, 15, none⟩ = some av := pcells_row qq 15 _ rfl
  clear qq
  have qq := F8.out.2.1
  have d0 : w8.cell? ⟨gb, 0, none⟩ = some (.int .u8 r0) := pcells_row qq 0 _ rfl
  have d1 : w8.cell? ⟨gb, 1, none⟩ = some (.int .i64 r1) := pcells_row qq 1 _ rfl
  have d2 : w8.cell? ⟨gb, 2, none⟩ = some (.slice r2 r3 r4) := pcells_row qq 2 _ rfl
  have d3 : w8.cell? ⟨gb, 3, none⟩ = some (.slice r5 r6 r7) := pcells_row qq 3 _ rfl
  have d4 : w8.cell? ⟨gb, 4, none⟩ = some (.int .u8 s0) := pcells_row qq 4 _ rfl
  have d5 : w8.cell? ⟨gb, 5, none⟩ = some (.int .i64 s1) := pcells_row qq 5 _ rfl
  have d6 : w8.cell? ⟨gb, 6, none⟩ = some (.slice s2 s3 s4) := pcells_row qq 6 _ rfl
  have d7 : w8.cell? ⟨gb, 7, none⟩ = some (.slice s5 s6 s7) := pcells_row qq 7 _ rfl
  have d8 : w8.cell? ⟨gb, 8, none⟩ = some (.slice none 0 0) := pcells_row qq 8 _ rfl
  clear qq
  have qq := F8.out.2.2
  have e0 : w8.cell? ⟨gb + 1, 0, none⟩ = some (.int .i64 zn) := pcells_row qq 0 _ rfl
  have e1 : w8.cell? ⟨gb + 1, 1, none⟩ = some (.float .f64 zf) := pcells_row qq 1 _ rfl
  have e2 : w8.cell? ⟨gb + 1, 2, none⟩ = some (.string zs) := pcells_row qq 2 _ rfl
  have e3 : w8.cell? ⟨gb + 1, 3, none⟩ = some (.slice za zc zcap) := pcells_row qq 3 _ rfl
  clear qq
  have hval := (build_type x.args x.takes 4 (by omega) (by omega) (NShows.vok _ _ HX.out.t)).2
  have HVAL := Lib.hid hval
  have P1 := Lib.hid (Play_any (fun k => k ≠ gb) (typeE [] x.takes 4) (typeE [] x.answers 4) [] (BuildE x.args (typeE [] x.takes 4)) x.st _ _ _ _ _ _ _ _ _ _ _ _ _ w8 (show PSees w8 (.slice none 0 0) [] from .inl ⟨rfl, _, _, rfl⟩) (by simp) (by simp)
    (Shows.fr F68.out (fun k hk h => hk.1 h) _ _ (Shows.mono (S := fun k => k ≠ gb ∧ True) (fun k hk1 hk => ⟨by have := GB.out; omega, trivial⟩) _ _ HTAV.out.1) |> Shows.mono (fun k _ hk => hk.1) _ _)
    (Shows.fr F68.out (fun k hk h => hk.1 h) _ _ (Shows.mono (S := fun k => k ≠ gb ∧ True) (fun k hk1 hk => ⟨by have := GB.out; omega, trivial⟩) _ _ HTAV.out.2.1) |> Shows.mono (fun k _ hk => hk.1) _ _)
    (VShows.fr F68.out (fun k hk h => hk.1 h) _ _ (VShows.mono (S := fun k => k ≠ gb ∧ True) (fun k hk1 hk => ⟨by have := GB.out; omega, trivial⟩) _ _ HTAV.out.2.2) |> VShows.mono (fun k _ hk => hk.1) _ _)
    (build_sz _ _ (type_cost _)) (type_cost _) (fun l => (build_type l x.answers 4 (by omega) (by omega) (NShows.vok _ _ HX.out.a)).2) HX.out.s)
  clear hval
  obtain ⟨sx, hpe, hsx⟩ := play_none (typeE [] x.takes 4) (typeE [] x.answers 4) (BuildE x.args (typeE [] x.takes 4)) x.st HVAL.out
  rw [hpe] at P1
  have HSX := Lib.hid hsx
  clear hpe hsx
  obtain ⟨fl, hfl⟩ : ∃ fl, fl = flatE (typeE [] x.takes 4) (BuildE x.args (typeE [] x.takes 4)) 8 := ⟨_, rfl⟩
  have HFL : Hid (fl = flatE (typeE [] x.takes 4) (BuildE x.args (typeE [] x.takes 4)) 8 ∧ fl.length ≤ 8 ∧ ∀ x ∈ fl, -9223372036854775808 ≤ x ∧ x ≤ 9223372036854775807) := Lib.hid ⟨hfl, by
    rw [hfl, show flatE (typeE [] x.takes 4) (BuildE x.args (typeE [] x.takes 4)) 8 = (flE (typeE [] x.takes 4) (BuildE x.args (typeE [] x.takes 4))).take 8 from flat_take _ _ 8, List.length_take]
    exact Nat.min_le_left _ _, by rw [hfl]; exact flat_in _ _ _ _ _ HTAV.out.2.2 8⟩
  rw [← hfl] at P1
  clear hfl
  generalize hbv : BuildE (eightE fl) (typeE [] x.answers 4) = BV at *
  have HBV := Lib.hid hbv
  clear hbv
  simp only [stC] at P1
  go_wp2_with fail
  refine P1.out.mono ?_
  rintro e w9 ⟨⟨ov1, rfl, ho1⟩, f9⟩
  obtain ⟨t0, t1, t2, t3, rfl, hv1⟩ := ho1
  obtain ⟨pn, pf, ps, pa, pc, pp, e4⟩ := hv1.lit
  simp at e4
  obtain ⟨rfl, rfl, rfl, rfl⟩ := e4
  have F9 := Lib.hid (And.intro f9 hv1)
  clear f9 hv1 c0 c1 c2 c3 c4 c5 c6 c7 c8 c9 c10 c11 c12 c13 c14 c15 d0 d1 d2 d3 d4 d5 d6 d7 d8 e0 e1 e2 e3
  simp only [stC]
  obtain ⟨w10, hw10⟩ : ∃ w10, w10 = ((w9.alloc (.cells #[.int .i64 (sx 0), .int .i64 (sx 1), .int .i64 (sx 2), .int .i64 (sx 3), .int .i64 (sx 4), .int .i64 (sx 5), .int .i64 (sx 6), .int .i64 (sx 7)] 27)).alloc (.cells #[.int .i64 0, .int .i64 0, .int .i64 pn, .float .f64 pf, .string ps, .slice pa pc pp] 65)) := ⟨_, rfl⟩
  have F10 : Hid (Fr (fun _ => False) w9 w10 ∧ w10.heap[w9.heap.size]? = some (.cells #[.int .i64 (sx 0), .int .i64 (sx 1), .int .i64 (sx 2), .int .i64 (sx 3), .int .i64 (sx 4), .int .i64 (sx 5), .int .i64 (sx 6), .int .i64 (sx 7)] 27 (0, 0)) ∧ w10.heap[w9.heap.size + 1]? = some (.cells #[.int .i64 0, .int .i64 0, .int .i64 pn, .float .f64 pf, .string ps, .slice pa pc pp] 65 (0, 0))) := Lib.hid (by
    have f : ∀ (w : World) (o : Obj), Fr (fun _ => False) w (w.alloc o) := fun w o => (Fr.refl _ _).alloc _
    rw [hw10]
    exact ⟨(f _ _).alloc _, pbox_kept (heap_alloc_new _ _) (f _ _) (fun h => h), new_two _ _ _⟩)
  go_upto_region 8 with fail
  rw [← hw10]
  clear hw10
  generalize hg9 : w9.heap.size = g9 at *
  have G9 := Lib.hid hg9
  clear hg9
  have F810 := Lib.hid (F9.out.1.trans F10.out.1 (fun _ _ h => h))
  obtain ⟨w11, hw11⟩ : ∃ w11, w11 = w10.alloc (.cells #[.int .i64 0, .int .i64 0, .int .i64 0, .int .i64 0, .int .i64 0, .int .i64 0, .int .i64 0, .int .i64 0] 26) := ⟨_, rfl⟩
  have F11 : Hid (Fr (fun _ => False) w10 w11 ∧ w11.heap[w10.heap.size]? = some (.cells #[.int .i64 0, .int .i64 0, .int .i64 0, .int .i64 0, .int .i64 0, .int .i64 0, .int .i64 0, .int .i64 0] 26 (0, 0))) := Lib.hid (by
    rw [hw11]
    exact ⟨(Fr.refl _ _).alloc _, heap_alloc_new _ _⟩)
  go_upto_region 9 with fail
  rw [← hw11]
  clear hw11
  generalize hgl : w10.heap.size = gl at *
  have GL := Lib.hid hgl
  clear hgl
  have F811 : Hid (Fr (fun _ => False) w8 w11) := Lib.hid (F810.out.trans F11.out.1 (fun _ _ h => h))
  have F611 : Hid (Fr (fun k => k = gb) w6 w11) := Lib.hid (F68.out.trans F811.out (fun _ _ h => h.elim))
  have HB11 : Hid (w11.heap[gb]? = some (.cells #[.int .u8 r0, .int .i64 r1, .slice r2 r3 r4, .slice r5 r6 r7, .int .u8 s0, .int .i64 s1, .slice s2 s3 s4, .slice s5 s6 s7, .slice none 0 0] 40 (0, 0)) ∧ w11.heap[gb + 1]? = some (.cells #[.int .i64 zn, .float .f64 zf, .string zs, .slice za zc zcap] 44 (0, 0))) := Lib.hid ⟨pbox_kept F8.out.2.1 F811.out (fun h => h), pbox_kept F8.out.2.2 F811.out (fun h => h)⟩
  have hne : gb ≠ gl ∧ gb + 1 ≠ gl ∧ g9 ≠ gl ∧ g9 + 1 ≠ gl ∧ n0 ≠ gl := by
    have h1 := lt_of_block F8.out.2.2
    have h2 := F810.out.size
    have h3 := lt_of_block F10.out.2.2
    have h4 := lt_of_block F10.out.2.1
    have h5 := lt_of_block F1.out.2
    have h6 := (FX1.out.trans FX8.out (fun _ _ h => h)).size
    have h7 := GL.out
    omega
  have HNE := Lib.hid hne
  clear hne
  have HTV := Lib.hid (And.intro
    (Shows.fr F611.out (fun k hk h => hk.1 h) _ _ (Shows.mono (S := fun k => k ≠ gb ∧ True) (fun k hk1 hk => ⟨by have := GB.out; omega, trivial⟩) _ _ HTAV.out.1) |> Shows.mono (S := fun _ => True) (fun k _ hk => trivial) _ _)
    (And.intro (Shows.fr F611.out (fun k hk h => hk.1 h) _ _ (Shows.mono (S := fun k => k ≠ gb ∧ True) (fun k hk1 hk => ⟨by have := GB.out; omega, trivial⟩) _ _ HTAV.out.2.1) |> Shows.mono (S := fun _ => True) (fun k _ hk => trivial) _ _)
    (VShows.fr F611.out (fun k hk h => hk.1 h) _ _ (VShows.mono (S := fun k => k ≠ gb ∧ True) (fun k hk1 hk => ⟨by have := GB.out; omega, trivial⟩) _ _ HTAV.out.2.2) |> VShows.mono (S := fun _ => True) (fun k _ hk => trivial) _ _)))
  refine wp_region_chain (by kernel_rfl) [some 27, some 28, some 29, some 30, some 31, some 32] rfl (by decide) (by intro d hd; simp at hd ⊢; omega)
    [4, 5] (fun cvs wx => NoS w11 gl fl cvs wx)
    [.free (.slice (some ⟨gl, 0, none⟩) 8 8), .free (.pointer (some ⟨gb, 0, none⟩)), .free (.agg #[.int .u8 r0, .int .i64 r1, .slice r2 r3 r4, .slice r5 r6 r7]), .free (.agg #[.int .i64 zn, .float .f64 zf, .string zs, .slice za zc zcap]), .link none, .link none]
    (by kernel_rfl) (by kernel_rfl) ?h0 ?step ?fin
  case h0 => exact (Fr.refl _ _).drew
  case step =>
    intro vals
    simp only [frOfU, fillU, List.setIfInBounds_toArray, List.set_cons_succ, List.set_cons_zero]
    repeat' (first | exact AllOps.nil | refine AllOps.cons ?_ ?_)
    all_goals
      intro cvs wx hS he hu hlim K hK
      simp only [Act.put, List.setIfInBounds_toArray, List.set_cons_succ, List.set_cons_zero, List.getD_cons_zero, List.getD_cons_succ] at hK
      simp only [List.mem_cons, List.not_mem_nil, or_false, forall_eq_or_imp, forall_eq, Region.binds, forall_const, vmode_gc, Bool.false_eq_true, false_imp_iff, List.getD_cons_zero, List.getD_cons_succ, OpSort.val, Option.some.injEq, forall_eq', reduceCtorEq, implies_true, true_and, and_true] at he
      have HSX1 := Lib.hid hS
      clear hS hu
    all_goals first | (clear hlim; (try simp only [he] at hK ⊢); go_simp; exact hK) | skip
    · clear hlim
      have qq := pbox_kept HB11.out.1 HSX1.out.fr (fun h => HNE.out.1 h)
      have d0 : wx.cell? ⟨gb, 0, none⟩ = some (.int .u8 r0) := pcells_row qq 0 _ rfl
      have d1 : wx.cell? ⟨gb, 1, none⟩ = some (.int .i64 r1) := pcells_row qq 1 _ rfl
      have d2 : wx.cell? ⟨gb, 2, none⟩ = some (.slice r2 r3 r4) := pcells_row qq 2 _ rfl
      have d3 : wx.cell? ⟨gb, 3, none⟩ = some (.slice r5 r6 r7) := pcells_row qq 3 _ rfl
      clear qq
      simp only [he] at hK ⊢
      go_simp
      exact hK
    · clear hlim
      have qq := pbox_kept HB11.out.2 HSX1.out.fr (fun h => HNE.out.2.1 h)
      have d0 : wx.cell? ⟨gb + 1, 0, none⟩ = some (.int .i64 zn) := pcells_row qq 0 _ rfl
      have d1 : wx.cell? ⟨gb + 1, 1, none⟩ = some (.float .f64 zf) := pcells_row qq 1 _ rfl
      have d2 : wx.cell? ⟨gb + 1, 2, none⟩ = some (.string zs) := pcells_row qq 2 _ rfl
      have d3 : wx.cell? ⟨gb + 1, 3, none⟩ = some (.slice za zc zcap) := pcells_row qq 3 _ rfl
      clear qq
      (try simp only [he] at hK ⊢)
      go_simp
      exact hK
    · obtain rfl := hlim (0 : Nat) rfl
      have h1 : Fr (fun _ => False) w11 wx := HSX1.out
      have H1 := Lib.hid h1
      clear hlim HSX1 h1
      simp only [he] at hK ⊢
      go_simp
      go_at_call 26
      refine (Flat_any (fun _ => True) (typeE [] x.takes 4) (BuildE x.args (typeE [] x.takes 4)) _ _ wx 8 (Shows.fr H1.out (fun _ _ h => h) _ _ HTV.out.1) (VShows.fr H1.out (fun _ _ h => h) _ _ HTV.out.2.2) (build_sz _ _ (type_cost _)) HVAL.out).mono ?_
      rintro e1 wa ⟨nv, rfl, hown, fa⟩
      rw [← HFL.out.1] at hown
      exact hK _ _ (fun _ h => by cases h) ⟨H1.out.trans fa (fun _ _ h => h), (nums_own hown (by have := HFL.out.2.1; omega)).mono (fun k _ hk => Nat.le_trans H1.out.size hk)⟩
    · obtain rfl := hlim (1 : Nat) rfl
      have h1 : Fr (fun _ => False) w11 wx ∧ NumsAt (fun k => w11.heap.size ≤ k) wx fl (vals 4) := HSX1.out
      obtain ⟨na, nc, e4, hx4⟩ := h1.2.shape
      clear hx4
      obtain ⟨cn, wc, hc, hq, hf⟩ := copy_eight _ wx gl 3 _ fl HFL.out.2.1 (pbox_kept F11.out.2 h1.1 (fun h => h)) h1.2
      rw [e4] at hc
      have H1 := Lib.hid (And.intro h1.1 (And.intro hq hf))
      clear hlim HSX1 h1 hq hf
      simp only [he, e4] at hK ⊢
      go_simp
      exact hK _ _ (fun _ h => by cases h) ⟨(H1.out.1.mono (fun _ _ h => h.elim)).trans H1.out.2.2 (fun _ _ h => h), H1.out.2.1⟩
  case fin =>
  intro vals w12 hS hV
  clear hV
  have h12 : Fr (fun k => k = gl) w11 w12 ∧ w12.heap[gl]? = some (.cells (eightC fl) 26 (0, 0)) := hS
  have F12 := Lib.hid h12
  clear hS h12
  simp only [frOfU, fillU, List.setIfInBounds_toArray, List.set_cons_succ, List.set_cons_zero]
  have FX12 : Hid (Fr (fun _ => False) w w12) := Lib.hid (Fr.new ((FX0.out.trans FX8.out (fun _ _ h => h)).trans F811.out (fun _ _ h => h)) (fun k hk => by have h1 := GL.out; have h2 := ((FX0.out.trans FX8.out (fun _ _ h => h)).trans F810.out (fun _ _ h => h)).size; omega) F12.out.1)
  have HN12 := Lib.hid (pbox_kept (HCELLS.out w11 ((FX1.out.trans FX8.out (fun _ _ h => h)).trans F811.out (fun _ _ h => h))) F12.out.1 (fun h => HNE.out.2.2.2.2 h))
  have HG12 := Lib.hid (And.intro (pbox_kept (pbox_kept F10.out.2.1 F11.out.1 (fun h => h)) F12.out.1 (fun h => HNE.out.2.2.1 h)) (And.intro (pbox_kept (pbox_kept F10.out.2.2 F11.out.1 (fun h => h)) F12.out.1 (fun h => HNE.out.2.2.2.1 h)) (pbox_kept HB11.out.1 F12.out.1 (fun h => HNE.out.1 h))))
  have heq : ∀ w, (Op.equalIn 10000 27 (.agg #[.int .i64 (sx 0), .int .i64 (sx 1), .int .i64 (sx 2), .int .i64 (sx 3), .int .i64 (sx 4), .int .i64 (sx 5), .int .i64 (sx 6), .int .i64 (sx 7)]) (.agg #[.int .i64 (x.st 0), .int .i64 (x.st 1), .int .i64 (x.st 2), .int .i64 (x.st 3), .int .i64 (x.st 4), .int .i64 (x.st 5), .int .i64 (x.st 6), .int .i64 (x.st 7)])).run Try.prog w = .ok true w := fun w => by
    have := equal_states 9998 sx x.st w
    rw [(stEq_iff sx x.st).2 HSX.out] at this
    exact this
  have HEQ := Lib.hid heq
  clear heq
  have HTV2 : Hid (Shows (fun k => k ≠ gl) w11 (typeE [] x.answers 4) (.agg #[.int .u8 s0, .int .i64 s1, .slice s2 s3 s4, .slice s5 s6 s7])) := Lib.hid (Shows.fr F11.out.1 (fun _ _ h => h) _ _ (Shows.mono (S := fun k => k ≠ gl) (fun k hk1 _ => by have := GL.out; omega) _ _ (Shows.fr F810.out (fun _ _ h => h) _ _ (Shows.fr F68.out (fun k hk h => hk.1 h) _ _ (Shows.mono (S := fun k => k ≠ gb ∧ True) (fun k hk1 hk => ⟨by have := GB.out; omega, trivial⟩) _ _ HTAV.out.2.1)))))
  have HV12 : Hid (VShows (fun _ => True) w12 BV (.agg #[.int .i64 pn, .float .f64 pf, .string ps, .slice pa pc pp])) := Lib.hid (VShows.mono (fun _ _ _ => trivial) _ _ (VShows.fr F12.out.1 (fun k hk h => hk h) _ _ (VShows.fr F11.out.1 (fun _ _ h => h) _ _ (VShows.mono (S := fun k => k ≠ gl) (fun k hk1 _ => by have := GL.out; omega) _ _ (VShows.fr F10.out.1 (fun _ _ h => h) _ _ F9.out.2)))))
  go_upto_region 10 with fail
  refine wp_region_chain (by kernel_rfl) [some 33, some 34, some 35, some 36, some 37, some 38, some 39, some 40, some 41, some 42, some 43, some 44, some 45, some 46, some 47, some 48, some 49, some 50, some 2] rfl (by decide) (by intro d hd; simp at hd ⊢; omega)
    [15, 16] (fun cvs wx => NrS w12 BV cvs wx)
    [.free (.agg #[.int .i64 (sx 0), .int .i64 (sx 1), .int .i64 (sx 2), .int .i64 (sx 3), .int .i64 (sx 4), .int .i64 (sx 5), .int .i64 (sx 6), .int .i64 (sx 7)]), .free (.pointer (some ⟨n0, 7, none⟩)), .free (.agg #[.int .i64 (x.st 0), .int .i64 (x.st 1), .int .i64 (x.st 2), .int .i64 (x.st 3), .int .i64 (x.st 4), .int .i64 (x.st 5), .int .i64 (x.st 6), .int .i64 (x.st 7)]), .free (.bool true), .free (.bool true), .free (.pointer (some ⟨g9 + 1, 0, none⟩)), .free (.int .i64 0), .free (.bool true), .free (.bool true), .free (.bool true), .free (.pointer (some ⟨g9 + 1, 2, none⟩)), .free (.agg #[.int .i64 pn, .float .f64 pf, .string ps, .slice pa pc pp]), .free (.pointer (some ⟨gb, 4, none⟩)), .free (.agg #[.int .u8 s0, .int .i64 s1, .slice s2 s3 s4, .slice s5 s6 s7]), .free (.slice (some ⟨gl, 0, none⟩) 8 8), .link none, .link (some (.bool true)), .free (.bool true), .free (.bool true)]
    (by kernel_rfl) (by kernel_rfl) ?h0B ?stepB ?finB
  case h0B => exact (Fr.refl _ _).drew
  case stepB =>
    intro vals2
    simp only [frOfU, fillU, List.setIfInBounds_toArray, List.set_cons_succ, List.set_cons_zero]
    repeat' (first | exact AllOps.nil | refine AllOps.cons ?_ ?_)
    all_goals
      intro cvs wx hS he hu hlim K hK
      simp only [Act.put, List.setIfInBounds_toArray, List.set_cons_succ, List.set_cons_zero, List.getD_cons_zero, List.getD_cons_succ] at hK
      simp only [List.mem_cons, List.not_mem_nil, or_false, forall_eq_or_imp, forall_eq, Region.binds, forall_const, vmode_gc, Bool.false_eq_true, false_imp_iff, List.getD_cons_zero, List.getD_cons_succ, OpSort.val, Option.some.injEq, forall_eq', reduceCtorEq, implies_true, true_and, and_true] at he
      have HSX1 := Lib.hid hS
      clear hS hu
    all_goals first | (clear hlim; (try simp only [he] at hK ⊢); go_simp; exact hK) | skip
    · clear hlim
      have qq := pbox_kept HG12.out.1 HSX1.out.fr (fun h => h)
      have c0 : wx.cell? ⟨g9, 0, none⟩ = some (.int .i64 (sx 0)) := pcells_row qq 0 _ rfl
      have c1 : wx.cell? ⟨g9, 1, none⟩ = some (.int .i64 (sx 1)) := pcells_row qq 1 _ rfl
      have c2 : wx.cell? ⟨g9, 2, none⟩ = some (.int .i64 (sx 2)) := pcells_row qq 2 _ rfl
      have c3 : wx.cell? ⟨g9, 3, none⟩ = some (.int .i64 (sx 3)) := pcells_row qq 3 _ rfl
      have c4 : wx.cell? ⟨g9, 4, none⟩ = some (.int .i64 (sx 4)) := pcells_row qq 4 _ rfl
      have c5 : wx.cell? ⟨g9, 5, none⟩ = some (.int .i64 (sx 5)) := pcells_row qq 5 _ rfl
      have c6 : wx.cell? ⟨g9, 6, none⟩ = some (.int .i64 (sx 6)) := pcells_row qq 6 _ rfl
      have c7 : wx.cell? ⟨g9, 7, none⟩ = some (.int .i64 (sx 7)) := pcells_row qq 7 _ rfl
      clear qq
      (try simp only [he] at hK ⊢)
      go_simp
      exact hK
    · clear hlim
      have qq := pbox_kept HN12.out HSX1.out.fr (fun h => h)
      have c7 : wx.cell? ⟨n0, 7, none⟩ = some (.int .i64 (x.st 0)) := pcells_row qq 7 _ rfl
      have c8 : wx.cell? ⟨n0, 8, none⟩ = some (.int .i64 (x.st 1)) := pcells_row qq 8 _ rfl
      have c9 : wx.cell? ⟨n0, 9, none⟩ = some (.int .i64 (x.st 2)) := pcells_row qq 9 _ rfl
      have c10 : wx.cell? ⟨n0, 10, none⟩ = some (.int .i64 (x.st 3)) := pcells_row qq 10 _ rfl
      have c11 : wx.cell? ⟨n0, 11, none⟩ = some (.int .i64 (x.st 4)) := pcells_row qq 11 _ rfl
      have c12 : wx.cell? ⟨n0, 12, none⟩ = some (.int .i64 (x.st 5)) := pcells_row qq 12 _ rfl
      have c13 : wx.cell? ⟨n0, 13, none⟩ = some (.int .i64 (x.st 6)) := pcells_row qq 13 _ rfl
      have c14 : wx.cell? ⟨n0, 14, none⟩ = some (.int .i64 (x.st 7)) := pcells_row qq 14 _ rfl
      clear qq
      (try simp only [he] at hK ⊢)
      go_simp
      exact hK
    · clear hlim
      have heq := HEQ.out
      simp only [he] at hK ⊢
      go_simp
      exact hK
    · clear hlim
      have qq := pbox_kept HG12.out.2.1 HSX1.out.fr (fun h => h)
      have c0 : wx.cell? ⟨g9 + 1, 0, none⟩ = some (.int .i64 0) := pcells_row qq 0 _ rfl
      clear qq
      (try simp only [he] at hK ⊢)
      go_simp
      exact hK
    · clear hlim
      have qq := pbox_kept HG12.out.2.1 HSX1.out.fr (fun h => h)
      have c2 : wx.cell? ⟨g9 + 1, 2, none⟩ = some (.int .i64 pn) := pcells_row qq 2 _ rfl
      have c3 : wx.cell? ⟨g9 + 1, 3, none⟩ = some (.float .f64 pf) := pcells_row qq 3 _ rfl
      have c4 : wx.cell? ⟨g9 + 1, 4, none⟩ = some (.string ps) := pcells_row qq 4 _ rfl
      have c5 : wx.cell? ⟨g9 + 1, 5, none⟩ = some (.slice pa pc pp) := pcells_row qq 5 _ rfl
      clear qq
      (try simp only [he] at hK ⊢)
      go_simp
      exact hK
    · clear hlim
      have qq := pbox_kept HG12.out.2.2 HSX1.out.fr (fun h => h)
      have d4 : wx.cell? ⟨gb, 4, none⟩ = some (.int .u8 s0) := pcells_row qq 4 _ rfl
      have d5 : wx.cell? ⟨gb, 5, none⟩ = some (.int .i64 s1) := pcells_row qq 5 _ rfl
      have d6 : wx.cell? ⟨gb, 6, none⟩ = some (.slice s2 s3 s4) := pcells_row qq 6 _ rfl
      have d7 : wx.cell? ⟨gb, 7, none⟩ = some (.slice s5 s6 s7) := pcells_row qq 7 _ rfl
      clear qq
      (try simp only [he] at hK ⊢)
      go_simp
      exact hK
    · obtain rfl := hlim (0 : Nat) rfl
      have h1 : Fr (fun _ => False) w12 wx := HSX1.out
      have H1 := Lib.hid h1
      clear hlim HSX1 h1
      simp only [he] at hK ⊢
      go_simp
      go_at_call 28
      refine (Build_any (fun _ => True) (eightE fl) (typeE [] x.answers 4) _ _ wx (Shows.fr H1.out (fun _ _ h => h) _ _ (Shows.mono (S := fun _ => True) (fun _ _ _ => trivial) _ _ (Shows.fr F12.out.1 (fun k hk h => hk h) _ _ HTV2.out))) ((nums_eight F12.out.2 HFL.out.2.2).fr H1.out (fun _ _ h => h)) (type_cost _)).mono ?_
      rintro e1 wa ⟨v', rfl, hs, fa⟩
      rw [HBV.out] at hs
      exact hK _ _ (fun _ h => by cases h) ⟨H1.out.trans fa (fun _ _ h => h), VShows.mono (fun k _ hk => Nat.le_trans H1.out.size hk) _ _ hs⟩
    · obtain rfl := hlim (1 : Nat) rfl
      have h1 : Fr (fun _ => False) w12 wx ∧ VShows (fun k => w12.heap.size ≤ k) wx BV (vals2 15) := HSX1.out
      have H1 := Lib.hid h1
      obtain ⟨qn, qf, qs, qa, qc, qp, e15⟩ := h1.2.lit
      clear hlim HSX1 h1
      simp only [he, e15] at hK ⊢
      go_simp
      go_at_call 27
      have hs1 : VShows (fun _ => True) wx BV (.agg #[.int .i64 pn, .float .f64 pf, .string ps, .slice pa pc pp]) := VShows.fr H1.out.1 (fun _ _ h => h) _ _ HV12.out
      have hs2 : VShows (fun _ => True) wx BV (.agg #[.int .i64 qn, .float .f64 qf, .string qs, .slice qa qc qp]) := VShows.mono (fun _ _ _ => trivial) _ _ (e15 ▸ H1.out.2)
      refine (vsame_any (fun _ => True) BV BV _ _ wx hs1 hs2 (by rw [← HBV.out]; exact build_sz _ _ (type_cost _))).mono ?_
      rintro e1 wa ⟨rfl, fa⟩
      rw [sameV_refl _ _ _ _ hs1]
      exact hK _ _ (fun _ h => by cases h; rfl) (H1.out.1.trans fa (fun _ _ h => h))
  case finB =>
  intro vals2 w13 hS hV
  have v18 := hV 18 _ (by decide) rfl
  clear hV
  have F13 : Hid (Fr (fun _ => False) w12 w13) := Lib.hid (NrS.fr hS)
  clear hS
  simp only [frOfU, fillU, List.setIfInBounds_toArray, List.set_cons_succ, List.set_cons_zero]
  simp only [Nat.reduceAdd, v18]
  clear v18
  go_wp2_with fail
  go_ret
  exact ⟨rfl, FX12.out.trans F13.out (fun _ _ h => h)⟩

end Go.Proofs.Ytedadjlmmnikaaa

/-
  PlayNone: whatever is handed in.
-/
namespace Go.Proofs.Ytedadjlmmnikaaa
open Go.RowKit
set_option linter.unusedVariables false
set_option linter.unusedSimpArgs false

set_option maxRecDepth 100000 in
set_option maxHeartbeats 4000000 in
theorem none_off (x : S11) (a0 a1 a2 b0 b1 b2 pv av : Value) (w : World) (hx : S11Shows w x a0 a1 a2 b0 b1 b2 pv av) (hli : lightS x = false) :
    Calls Try.prog 7 #[.agg (s11C x.st a0 a1 a2 b0 b1 b2 pv av)] w fun e w' => e = .returned (.bool true) ∧ Fr (fun _ => False) w w' := by
  have HLI := Lib.hid hli
  have HX := Lib.hid hx
  clear hli hx
  simp only [s11C]
  go_enter Try.func7, Try.ntmps7
  go_wp2_with fail
  refine (pawake_any _).mono ?_
  rintro e w1 ⟨rfl, f1⟩
  have F1 : Hid (Fr (fun _ => False) w w1 ∧ w1.heap[w.heap.size]? = some (.cells (s11C x.st a0 a1 a2 b0 b1 b2 pv av) 30 (0, 0))) := Lib.hid ⟨((Fr.refl (fun _ => False) _).alloc _).trans f1 (fun _ _ h => h), pbox_kept (heap_alloc_new w _) f1 (fun h => h)⟩
  generalize hn : w.heap.size = n0 at *
  clear f1 hn
  have qq := F1.out.2
  have c0 : w1.cell? ⟨n0, 0, none⟩ = some a0 := pcells_row qq 0 _ rfl
  have c1 : w1.cell? ⟨n0, 1, none⟩ = some a1 := pcells_row qq 1 _ rfl
  have c2 : w1.cell? ⟨n0, 2, none⟩ = some a2 := pcells_row qq 2 _ rfl
  have c3 : w1.cell? ⟨n0, 3, none⟩ = some b0 := pcells_row qq 3 _ rfl
  have c4 : w1.cell? ⟨n0, 4, none⟩ = some b1 := pcells_row qq 4 _ rfl
  have c5 : w1.cell? ⟨n0, 5, none⟩ = some b2 := pcells_row qq 5 _ rfl
  have c6 : w1.cell? ⟨n0, 6, none⟩ = some pv := pcells_row qq 6 _ rfl
  have c7 : w1.cell? ⟨n0, 7, none⟩ = some (.int .i64 (x.st 0)) := pcells_row qq 7 _ rfl
  have c8 : w1.cell? ⟨n0, 8, none⟩ = some (.int .i64 (x.st 1)) := pcells_row qq 8 _ rfl
  have c9 : w1.cell? ⟨n0, 9, none⟩ = some (.int .i64 (x.st 2)) := pcells_row qq 9 _ rfl
  have c10 : w1.cell? ⟨n0, 10, none⟩ = some (.int .i64 (x.st 3)) := pcells_row qq 10 _ rfl
  have c11 : w1.cell? ⟨n0, 11, none⟩ = some (.int .i64 (x.st 4)) := pcells_row qq 11 _ rfl
  have c12 : w1.cell? ⟨n0, 12, none⟩ = some (.int .i64 (x.st 5)) := pcells_row qq 12 _ rfl
  have c13 : w1.cell? ⟨n0, 13, none⟩ = some (.int .i64 (x.st 6)) := pcells_row qq 13 _ rfl
  have c14 : w1.cell? ⟨n0, 14, none⟩ = some (.int .i64 (x.st 7)) := pcells_row qq 14 _ rfl
  have c15 : w1.cell? ⟨n0, 15, none⟩ = some av := pcells_row qq 15 _ rfl
  clear qq
  go_wp2_with fail
  refine (slight_any x a0 a1 a2 b0 b1 b2 pv av w1 (HX.out.fr F1.out.1)).mono ?_
  rintro e w2 ⟨rfl, f2⟩
  rw [HLI.out]
  go_wp2_with fail
  go_ret
  exact ⟨rfl, F1.out.1.trans f2 (fun _ _ h => h)⟩


theorem none_all {W : World} (x : S11) (vx : Value) (hx : S11V W x vx) :
    Calls Try.prog 7 #[vx] W fun e w' => e = .returned (.bool true) ∧ Fr (fun _ => False) W w' := by
  obtain ⟨a0, a1, a2, b0, b1, b2, pv, av, rfl, hs⟩ := hx
  cases h : lightS x
  · exact none_off x a0 a1 a2 b0 b1 b2 pv av W hs h
  · exact none_walk x a0 a1 a2 b0 b1 b2 pv av W hs h

end Go.Proofs.Ytedadjlmmnikaaa
