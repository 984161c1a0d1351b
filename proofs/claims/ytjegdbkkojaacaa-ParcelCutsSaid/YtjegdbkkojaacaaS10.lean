/-
  What ParAny, ParChk, ParBack, ParOnce rests on, part 10: ParTab4, ParTab5, ParTab6, ParChkLaw, ParChkArg.
-/
import Derived.Test.YtjegdbkkojaacaaS09
import Derived.LaidEqlPtr
import Derived.Deep.CutBlock
import Derived.Test.YtjegdbkkojaacaaS05
import Derived.Test.YtjegdbkkojaacaaS08
set_option linter.unusedVariables false
set_option linter.unusedSimpArgs false
set_option maxHeartbeats 64000000
namespace Go.Proofs.Ytjegdbkkojaacaa
open Go.RowKit
open Go.Lib (hid)
section
open Go.RowKit Go.MapKept
set_option maxRecDepth 100000

theorem sizePtr (w : World) : (sizeOf 79).run Try.prog w = .ok 1 w := by kernel_rfl
theorem zeroPtr : ∀ w, (zeroValue 79).run Try.prog w = .ok (.pointer none) w := fun w => by kernel_rfl

theorem pslice_from0 (w : World) (g n c : Nat) (h : 0 < c) : (Instr.slice 49 (.slice (some ⟨g, 0, none⟩) n c) (some (.int .i64 0)) none none).run Try.prog w = .ok (.slice (some ⟨g, 0, none⟩) n c) w := by
  have hs := sizePtr w
  have e2 : (⟨g, 0, none⟩ : Addr).add 0 = ⟨g, 0, none⟩ := by simp [Addr.add]
  have e3 : ¬ c = 0 := by omega
  simp [Instr.slice, Instr.sliceBounds, Instr.sliceBound, run_underlying Try.underlying49, asIntOf, hs, e2, e3, Result.andThen]

theorem pslice_to0 (w : World) (g n c : Nat) : (Instr.slice 49 (.slice (some ⟨g, 0, none⟩) n c) none (some (.int .i64 0)) none).run Try.prog w = .ok (.slice (some ⟨g, 0, none⟩) 0 c) w := by
  have hs := sizePtr w
  have e2 : (⟨g, 0, none⟩ : Addr).add 0 = ⟨g, 0, none⟩ := by simp [Addr.add]
  simp [Instr.slice, Instr.sliceBounds, Instr.sliceBound, run_underlying Try.underlying49, asIntOf, hs, e2, Result.andThen]

theorem prun_clear {P : Program} (w : World) (t e ty : TypeId) (z : Value) (zs : List Value) (ht : P.underlying t = some (.slice e)) (hv : ∀ w, (zeroValue e).run P w = .ok z w) (n : Nat) (hn : 0 < n) (hzs : (Builtin.zeroCells z.cells n).toList = zs) (h1 : ∀ u ∈ zs, u.oneCell' = true)
    (g o c : Nat) (cur : Array Value) (hg : w.heap[g]? = some (.cells cur e (0, 0))) (hfit : o + zs.length ≤ cur.size) :
    (Builtin.clear_ #[t] ty #[.slice (some ⟨g, o, none⟩) n c]).run P w = .ok (.tuple #[]) (w.setRow g (cur.toList.take o ++ zs ++ cur.toList.drop (o + zs.length)).toArray) := by
  have hst := run_storeCells_at P g o e zs 0 cur w hg (by simpa using hfit) h1
  simp only [Nat.add_zero] at hst
  obtain ⟨m, rfl⟩ : ∃ m, n = m + 1 := ⟨n - 1, by omega⟩
  simp [Builtin.clear_, run_underlying ht, hv, hzs, hst]

theorem pfr_setRow {S : Nat → Prop} {w0 w : World} (f : Fr S w0 w) {g : Nat} (hg : g < w0.heap.size → S g) (cs : Array Value) : Fr S w0 (w.setRow g cs) :=
  ⟨f.os, f.tape, f.output, by have := f.size; simpa [World.setRow] using this, fun k hk hs => by
    rw [setRow_other _ _ _ _ (fun e => hs (by subst e; exact hg hk))]; exact f.block k hk hs⟩

abbrev oPtr (g : Nat) : Obj := Obj.cells #[ptr g] 79 (0, 0)
theorem ptr_cell {w : World} {g z : Nat} (h : w.heap[g]? = some (oPtr z)) : w.cell? ⟨g, 0, none⟩ = some (ptr z) := by
  rw [cell_of_row w g _ _ _ _ h]; rfl

theorem same_ptr (g gc : Nat) (w : World) (h : w.heap[gc]? = some (oPtr g)) :
    Calls Try.prog 51 #[ptr g, ptr gc] w fun e w' => e = .returned (.bool true) ∧ w = w' := by
  have hc := ptr_cell h
  clear h
  obtain ⟨j, hj⟩ : ∃ j, Try.prog.info? 85 = some j := Option.isSome_iff_exists.1 (by kernel_rfl)
  have he : ∀ W, (binOp .eql 79 (ptr g) (ptr g)).run Try.prog W = .ok (.bool true) W := fun W => run_eql_ptr_same (P := Try.prog) W ⟨g, 0, none⟩ Try.underlying79 hj
  go_enter Try.func51, Try.ntmps51
  go_wp2_with fail
  go_ret
  exact ⟨rfl, rfl⟩

theorem index_first (g gc go c : Nat) (w : World) (h : w.heap[gc]? = some (oPtr g)) (hc : w.cell? ⟨go, 0, none⟩ = some (ptr g)) (h1 : 1 ≤ c) :
    Calls Try.prog 58 #[.slice (some ⟨go, 0, none⟩) 1 c, .func (.func 51) #[] #[ptr gc]] w fun e w' => e = .returned (.int .i64 0) ∧ w = w' := by
  have HG := Lib.hid h
  clear h
  go_enter Try.func58, Try.ntmps58
  go_wp2_with fail
  refine wp_loop_rounds 1 ?_
  rw [rounds_succ]
  go_wp2_with fail
  refine (same_ptr g gc w HG.out).mono ?_
  rintro e w1 ⟨rfl, rfl⟩
  dsimp only
  go_wp2_with fail
  go_ret
  exact ⟨rfl, rfl⟩

theorem delf_any (B g gc go c : Nat) (w : World) (hr : w.ownsRow B 79 1 (.slice (some ⟨go, 0, none⟩) 1 c) 1 [ptr g]) (h : w.heap[gc]? = some (oPtr g)) :
    Calls Try.prog 50 #[.slice (some ⟨go, 0, none⟩) 1 c, .func (.func 51) #[] #[ptr gc]] w fun e w' => e = .returned (.slice (some ⟨go, 0, none⟩) 0 c) ∧ w'.ownsRow B 79 1 (.slice (some ⟨go, 0, none⟩) 0 c) 0 [] ∧ Fr (fun k => k = go) w w' := by
  obtain ⟨go', c', e0, hc1, hcell, _⟩ := row_cell hr
  simp at e0
  obtain ⟨rfl, rfl⟩ := e0
  obtain ⟨w1, hcl, hr1, f1⟩ : ∃ w1, (Builtin.clear_ #[49] 0 #[.slice (some ⟨go, 0, none⟩) 1 c]).run Try.prog w = .ok (.tuple #[]) w1 ∧ w1.ownsRow B 79 1 (.slice (some ⟨go, 0, none⟩) 0 c) 0 [] ∧ Fr (fun k => k = go) w w1 := by
    rcases hr.2 with ⟨e, _⟩ | ⟨g', cap, cur, e, hb, hg, hn, hm, hs, ht⟩
    · cases e
    · simp at e
      obtain ⟨rfl, rfl⟩ := e
      have hzs : (Builtin.zeroCells (Value.pointer none).cells 1).toList = [.pointer none] := by kernel_rfl
      have := prun_clear (P := Try.prog) w 49 79 0 _ _ Try.underlying49 zeroPtr 1 (by omega) hzs (by simp [Value.oneCell']) go 0 c cur hg (by simp; omega)
      refine ⟨_, this, ⟨rfl, .inr ⟨go, c, _, rfl, hb, setRow_heap w go cur _ _ _ hg, Nat.zero_le _, hm, ?_, by simp⟩⟩, pfr_setRow (S := fun k => k = go) (Fr.refl _ _) (fun _ => rfl) _⟩
      simp
      omega
  have s1 := fun W => pslice_from0 W go 1 c (by omega)
  have s2 := fun W => pslice_to0 W go 1 c
  have HG := Lib.hid h
  have HF := Lib.hid (And.intro hr1 f1)
  have HI := Lib.hid (index_first g gc go c w h hcell hc1)
  clear hr h hr1 f1
  go_enter Try.func50, Try.ntmps50
  go_wp2_with fail
  refine HI.out.mono ?_
  rintro e w2 ⟨rfl, rfl⟩
  dsimp only
  go_wp2_with fail
  refine wp_loop_rounds 1 ?_
  rw [rounds_succ]
  go_wp2_with fail
  go_ret
  exact ⟨rfl, HF.out⟩

/-- A message is whole: the table's memory then. -/
structure Whole (w w' : World) (b B : Nat) (ov' dv' : Value) (y : MsgN) (g p : Nat) (d : List IdN) : Prop where
  tab : TabAt w' b B ov' dv' none (d ++ [(y.f, y.k)])
  msg : MsgAt w' B g p ov' y
  fr : Fr (fun k => k = b ∨ B ≤ k) w w'

section
variable {b B : Nat} {ov dv : Value} {d : List IdN}

theorem complete_any (w : World) {y : MsgN} {g p : Nat} (h : TabAt w b B ov dv (some (y, g, p)) d) (hnd : (y.f, y.k) ∉ d) :
    Calls Try.prog 39 #[ptr b, ptr g] w fun e w' => e = .returned (.tuple #[]) ∧ ∃ ov' dv', Whole w w' b B ov' dv' y g p d := by
  have q0 := heap_alloc_new w (oPtr g)
  have f0 : Fr (fun _ => False) w (w.alloc (oPtr g)) := (Fr.refl _ _).alloc _
  have T0 := Lib.hid (h.fr0 f0)
  have HND := Lib.hid hnd
  obtain ⟨g3, hg3⟩ : ∃ g3, g3 = w.heap.size := ⟨_, rfl⟩
  have H3N : Hid (b ≠ g3 ∧ ∀ k, ov.ownBlock = some k → k ≠ g3) := Lib.hid ⟨by have := vt_lt h.here; omega, fun k hk => by have := (row_lt h.row.1 k hk).2; omega⟩
  clear h hnd
  go_enter Try.func39, Try.ntmps39
  go_upto_region 1 with fail
  generalize w.alloc (oPtr g) = w0 at *
  rw [← hg3] at q0 ⊢
  clear hg3
  have F0 := Lib.hid f0
  have Q0 := Lib.hid q0
  obtain ⟨t0, t1, t2, t3⟩ := tab_cells T0.out.here
  obtain ⟨go, c, hov, hc1, hcell, _⟩ := row_cell T0.out.row.1
  have HOV := Lib.hid hov
  rw [hov] at t0
  have hdl := delf_any B g g3 go c w0 (by have := T0.out.row.1; rw [hov] at this; exact this) q0
  have HD := Lib.hid hdl
  clear q0 f0 hcell hdl hov
  go_wp2_with fail
  refine HD.out.mono ?_
  rintro e w1 ⟨rfl, r1, f1⟩
  have hgo : B ≤ go := (row_lt T0.out.row.1 go (by rw [HOV.out]; rfl)).1
  have hbg : b ≠ go := by have := T0.out.bB; omega
  have HGO := Lib.hid (And.intro hgo hbg)
  have q1 := crow_kept T0.out.here f1 hbg
  have R1 := Lib.hid (And.intro r1 (And.intro f1 q1))
  have P1 := Lib.hid (crow_kept Q0.out f1 (fun e => H3N.out.2 go (by rw [HOV.out]; rfl) e.symm))
  obtain ⟨d0, d1, d2, d3⟩ := tab_cells q1
  have M1 : Hid (MsgAt w1 B g p (.slice (some ⟨go, 0, none⟩) 0 c) y) := Lib.hid (by
    have M := T0.out.row.2
    have hn1 : g ≠ go := fun e => row_ne T0.out.row.1 M.here (by decide) (by rw [HOV.out, e]; rfl)
    have hn2 : p ≠ go := fun e => row_nm T0.out.row.1 M.map (by rw [HOV.out, e]; rfl)
    have hn3 : ∀ e ∈ y.ps, ∀ k, e.2.1.ownBlock = some k → k ≠ go := fun e he k hk e' => (M.off e he k hk).2 (by rw [HOV.out, e']; rfl)
    exact ⟨crow_kept M.here f1 hn1, M.map.fr f1 hn2, M.nodup, fun e he => (M.sees e he).fr f1 (hn3 e he), fun e he k hk => ⟨(M.off e he k hk).1, fun e' => hn3 e he k hk (by simp [Value.ownBlock] at e'; exact e'.symm)⟩, M.b0, M.b1, M.id, M.many⟩)
  clear r1 f1 q1 t0 t1 t2 t3 HD hgo hbg
  dsimp only
  go_upto_region 2 with fail
  have f2 : Fr (fun k => k = b) w1 (w1.setCell ⟨b, 0, none⟩ (.slice (some ⟨go, 0, none⟩) 0 c)) := (Fr.refl (fun k => k = b) w1).set1 0 _
  have q2 := two_setCell0 R1.out.2.2 (.slice (some ⟨go, 0, none⟩) 0 c)
  have r2 := row_kept R1.out.1 f2 (fun k hk e => by simp [Value.ownBlock] at hk; have := HGO.out; omega)
  have hbB : b < B := T0.out.bB
  have M2 := Lib.hid (M1.out.fr f2 (by have := M1.out.b0; omega) (by have := M1.out.b1; omega) (fun e he k hk e' => by have := (M1.out.off e he k hk).1; omega))
  have P2 := Lib.hid (crow_kept P1.out f2 (fun e => H3N.out.1 e.symm))
  generalize w1.setCell ⟨b, 0, none⟩ (.slice (some ⟨go, 0, none⟩) 0 c) = w2 at *
  have D2 : Hid (DoneAt w2 B dv d) := Lib.hid (by
    refine (T0.out.done.fr R1.out.2.1 (fun n hn e => ?_)).fr f2 (fun n hn e => ?_)
    · rcases T0.out.done with ⟨_, e2⟩ | ⟨n', e2, hn', hmm, _⟩
      · rw [e2] at hn; cases hn
      · rw [e2] at hn
        cases hn
        exact row_nm T0.out.row.1 hmm (by rw [HOV.out, e]; rfl)
    · rcases T0.out.done with ⟨_, e2⟩ | ⟨n', e2, hn', hmm, _⟩
      · rw [e2] at hn; cases hn
      · rw [e2] at hn
        cases hn
        omega)
  have HPN : Hid (∀ n, dv = .map (some n) → p ≠ n) := Lib.hid (fun n hn e => T0.out.ap y g p rfl (by rw [hn, e]))
  have F2 : Hid (Fr (fun k => k = b ∨ B ≤ k) w w2) := Lib.hid (((F0.out.mono (fun _ _ h => h.elim)).trans R1.out.2.1 (fun i _ e => .inr (by have := HGO.out; omega))).trans f2 (fun i _ e => .inl e))
  have BW : Hid (B ≤ w2.heap.size) := Lib.hid (by have := T0.out.Bw; have := R1.out.2.1.size; have := f2.size; omega)
  have QR := Lib.hid (And.intro q2 r2)
  clear f2 q2 r2 d0 d1 d2 d3 R1 M1 T0
  obtain ⟨d0, d1, d2, d3⟩ := tab_cells QR.out.1
  have hb2 := vt_lt QR.out.1
  have hb2' : b ≠ w2.heap.size := by omega
  -- the map of those that were whole, at a world w3
  have key : ∀ (w3 : World) (n : Nat), w3.heap[b]? = some (oTab (.slice (some ⟨go, 0, none⟩) 0 c) (.map (some n))) → B ≤ n → MapK kv IdOk w3 n (d.map fun x => (x, Value.agg #[])) → d.Nodup → p ≠ n → MsgAt w3 B g p (.slice (some ⟨go, 0, none⟩) 0 c) y →
      w3.ownsRow B 79 1 (.slice (some ⟨go, 0, none⟩) 0 c) 0 [] → Fr (fun k => k = b ∨ B ≤ k) w w3 → B ≤ w3.heap.size →
      ∃ w4, (Instr.mapUpdate 50 (.map (some n)) (.agg #[.int .i64 y.f, .int .u32 y.k]) (.agg #[])).run Try.prog w3 = .ok () w4 ∧ Whole w w4 b B (.slice (some ⟨go, 0, none⟩) 0 c) (.map (some n)) y g p d := by
    intro w3 n hq hn hm hdn hpn hM hr hf hw
    have hk : ((d.map fun x => (x, Value.agg #[])).map Prod.fst) = d := by rw [List.map_map]; exact List.map_id d
    obtain ⟨w4, hr4, hm4, f4, hz4⟩ := hm.put idF hM.id (by rw [hk]; exact HND.out) Try.underlying50 (.agg #[])
    refine ⟨w4, hr4, ⟨crow_kept hq f4 (by omega), row_kept hr f4 (fun k hk e => row_nm hr hm (by rw [hk, e])), .inr ⟨n, rfl, hn, ?_, ?_⟩, fun _ _ _ e => (by cases e), hbB, by omega⟩, ?_, hf.trans f4 (fun i _ e => .inr (by omega))⟩
    · rw [List.map_append]; exact hm4
    · refine List.nodup_append.2 ⟨hdn, by simp, fun z hz z' hz' => ?_⟩
      simp at hz'
      subst hz'
      rintro rfl
      exact HND.out hz
    · refine ⟨crow_kept hM.here f4 (fun e => hm.no_cells (by rw [← e]; exact hM.here)), hM.map.fr f4 (fun e => ?_), hM.nodup, fun e he => (hM.sees e he).keepMap hm f4, hM.off, hM.b0, hM.b1, hM.id, hM.many⟩
      exact hpn e
  have KEY := Lib.hid key
  clear key
  have en0 : ∀ W, (binOp .eql 50 (.map none) (.map none)).run Try.prog W = .ok (.bool true) W := fun W => by kernel_rfl
  have hmk0 : ∀ W, (Instr.makeMap 50 none).run Try.prog W = .ok (.map (some W.heap.size)) (W.alloc (.map #[] 0)) := fun W => run_makeMap 50 W
  have en1 : ∀ n W, (binOp .eql 50 (.map (some n)) (.map none)).run Try.prog W = .ok (.bool false) W := fun n W => by kernel_rfl
  rcases D2.out with ⟨rfl, hdv⟩ | ⟨n, hdv, hn, hmm, hdn⟩
  · subst hdv
    have f3 : Fr (fun k => k = b) w2 ((w2.setCell ⟨b, 1, none⟩ (.map (some w2.heap.size))).alloc (.map #[] 0)) := ((Fr.refl (fun k => k = b) w2).set1 1 _).alloc _
    have q3 : ((w2.setCell ⟨b, 1, none⟩ (.map (some w2.heap.size))).alloc (.map #[] 0)).heap[b]? = some (oTab (.slice (some ⟨go, 0, none⟩) 0 c) (.map (some w2.heap.size))) := by
      rw [Below.heap_alloc _ _ _ (by rw [World.size_setCell]; exact hb2)]
      exact two_setCell1 QR.out.1 _
    have m3 : MapK kv IdOk ((w2.setCell ⟨b, 1, none⟩ (.map (some w2.heap.size))).alloc (.map #[] 0)) w2.heap.size (([] : List IdN).map fun x => (x, Value.agg #[])) := by
      have := mapK_new (kv := kv) (ok := IdOk) (w2.setCell ⟨b, 1, none⟩ (.map (some w2.heap.size)))
      rw [World.size_setCell] at this
      exact this
    have H3 := Lib.hid (And.intro f3 (And.intro q3 m3))
    clear f3 q3 m3 D2
    go_upto_region 4 with fail
    obtain ⟨w3, hw3⟩ : ∃ w3, w3 = (w2.setCell ⟨b, 1, none⟩ (.map (some w2.heap.size))).alloc (.map #[] 0) := ⟨_, rfl⟩
    rw [← hw3] at H3 ⊢
    clear hw3
    have fd : Fr (fun k => k = b) w2 w3.drew := H3.out.1.drew
    have M3 := M2.out.fr fd (by have := M2.out.b0; omega) (by have := M2.out.b1; omega) (fun e he k hk e' => by have := (M2.out.off e he k hk).1; omega)
    obtain ⟨w4, hr4, hw4⟩ := KEY.out w3.drew w2.heap.size (crow_kept (w0 := w3) H3.out.2.1 (Fr.refl (fun _ => False) w3).drew (fun h => h)) BW.out (H3.out.2.2.fr (Fr.refl (fun _ => False) w3).drew (fun h => h)) List.nodup_nil (by have := M2.out.map.lt; omega) M3 (row_kept QR.out.2 fd (fun k hk e => by simp [Value.ownBlock] at hk; have := HGO.out; omega)) (F2.out.trans fd (fun i _ e => .inl e)) (by have := fd.size; have := BW.out; omega)
    obtain ⟨e0, e1, e2, e3⟩ := tab_cells H3.out.2.1
    obtain ⟨m0, m1, m2, m3⟩ := msg_cells (w := w3) M3.here
    have pc := ptr_cell (crow_kept P2.out H3.out.1 (fun e => H3N.out.1 e.symm))
    have W4 := Lib.hid hw4
    clear hw4 M3 fd
    go_region
    all_goals
      go_wp2_with fail
      go_returns
      exact ⟨rfl, _, _, W4.out⟩
  · subst hdv
    go_upto_region 4 with fail
    have fd : Fr (fun _ => False) w2 w2.drew := (Fr.refl _ _).drew
    have M3 := M2.out.fr fd (fun h => h) (fun h => h) (fun _ _ _ _ h => h)
    obtain ⟨w4, hr4, hw4⟩ := KEY.out w2.drew n (crow_kept QR.out.1 fd (fun h => h)) hn (hmm.fr fd (fun h => h)) hdn (HPN.out n rfl) M3 (row_kept QR.out.2 fd (fun _ _ h => h)) (F2.out.trans fd (fun i _ e => e.elim)) (by have := fd.size; have := BW.out; omega)
    obtain ⟨e0, e1, e2, e3⟩ := tab_cells QR.out.1
    obtain ⟨m0, m1, m2, m3⟩ := msg_cells M2.out.here
    have pc := ptr_cell P2.out
    have W4 := Lib.hid hw4
    clear hw4 M3 fd hmm hdn hn D2
    go_region
    all_goals
      go_wp2_with fail
      go_returns
      exact ⟨rfl, _, _, W4.out⟩
end
end
section
open Go.RowKit Go.MapKept
set_option maxRecDepth 100000

/-- The bytes of part i, none if it isn't there. -/
def MsgN.at (y : MsgN) (i : Int) : List UInt8 := ((y.ps.find? (fun e => decide (e.1 = i))).map (fun e => e.2.2)).getD []
def MsgN.bytes (y : MsgN) (n : Nat) : List UInt8 := ((List.range n).map (fun (i : Nat) => y.at (i : Int))).flatten

theorem bytes_succ (y : MsgN) (n : Nat) : y.bytes (n + 1) = y.bytes n ++ y.at (n : Int) := by
  unfold MsgN.bytes
  rw [List.range_succ, List.map_append, List.flatten_append]
  simp

theorem at_len {y : MsgN} (h : ∀ e ∈ y.ps, e.2.2.length ≤ 48) (i : Int) : (y.at i).length ≤ 48 := by
  unfold MsgN.at
  cases hf : y.ps.find? (fun e => decide (e.1 = i)) with
  | none => simp
  | some e => simpa using h e (List.mem_of_find?_eq_some hf)
theorem bytes_len {y : MsgN} (h : ∀ e ∈ y.ps, e.2.2.length ≤ 48) : ∀ n, (y.bytes n).length ≤ n * 48
  | 0 => by simp [MsgN.bytes]
  | n + 1 => by
    rw [bytes_succ, List.length_append]
    have := bytes_len h n
    have := at_len h (n : Int)
    omega

theorem kget_ents (y : MsgN) (i : Int) : kget y.ents i = (y.ps.find? (fun e => decide (e.1 = i))).map (fun e => e.2.1) := by
  unfold kget MsgN.ents
  rw [List.find?_map]
  cases hf : y.ps.find? ((fun p => decide (p.1 = i)) ∘ fun e => (e.1, e.2.1)) with
  | none =>
    have : y.ps.find? (fun e => decide (e.1 = i)) = none := hf
    rw [this]; rfl
  | some e =>
    have : y.ps.find? (fun e => decide (e.1 = i)) = some e := hf
    rw [this]; rfl

theorem at_sees {w : World} {B g p : Nat} {ov : Value} {y : MsgN} (h : MsgAt w B g p ov y) (i : Int) : Sees w ((kget y.ents i).getD nilS) (y.at i) := by
  rw [kget_ents]
  unfold MsgN.at
  cases hf : y.ps.find? (fun e => decide (e.1 = i)) with
  | none => exact .inl ⟨rfl, _, _, rfl⟩
  | some e => exact h.sees e (List.mem_of_find?_eq_some hf)

section
variable {B g p : Nat} {ov : Value}

theorem mbytes_any (w : World) (y : MsgN) (h : MsgAt w B g p ov y) (hl : ∀ e ∈ y.ps, e.2.2.length ≤ 48) :
    Calls Try.prog 40 #[ptr g] w fun e w' => ∃ r, e = .returned r ∧ Made r (y.bytes y.m.toNat) w w' := by
  obtain ⟨i0, hi, hz0, hz1, hz2⟩ := info_parts Try.infoU8
  have M0 := Lib.hid h
  have HL := Lib.hid hl
  obtain ⟨hm1, hm2⟩ := h.many
  obtain ⟨n, hn⟩ : ∃ n : Nat, n = y.m.toNat := ⟨_, rfl⟩
  have hmn : y.m = (n : Int) := by omega
  obtain ⟨m0, m1, m2, m3⟩ := msg_cells h.here
  rw [hmn] at m2
  rw [← hn]
  have hn100 : n ≤ 100 := by omega
  clear h hl hn hmn hm1 hm2
  go_enter Try.func40, Try.ntmps40
  go_upto_region 3 with fail
  go_loopg [3, 9] n (fun gh u3 u9 wr => ∃ i : Nat, i ≤ n ∧ gh = n - i ∧ u9 = .int .i64 i ∧ Hid (Made u3 (y.bytes i) w wr))
  case atStart => exact ⟨0, Nat.zero_le _, rfl, rfl, Lib.hid ⟨(World.ownsRow_nil _ _ _ _ : Own w nilS []), Fr.refl _ _, fun k hk => (by cases hk)⟩⟩
  case round =>
    obtain ⟨i, hin, rfl, rfl, HJ⟩ := hrel
    clear m0 m1 m2 m3
    by_cases hlt : i < n
    case neg =>
      obtain rfl : i = n := by omega
      go_wp2_with fail
      go_ret
      exact ⟨_, rfl, HJ.out⟩
    have hltz : (i : Int) < (n : Int) := by omega
    have M1 := Lib.hid (M0.out.fr HJ.out.2.1 (fun h => h) (fun h => h) (fun _ _ _ _ h => h))
    obtain ⟨m0, m1, m2, m3⟩ := msg_cells M1.out.here
    obtain ⟨V, hV⟩ : ∃ V, V = (kget y.ents (i : Int)).getD nilS := ⟨_, rfl⟩
    have hlk : (Instr.lookup 83 (.map (some p)) (.int .i64 i) false).run Try.prog wr = .ok V wr := by
      have := M1.out.map.look nuF (x := (i : Int)) (by rw [MsgN.ents_keys]; exact M1.out.nodup) ⟨by omega, by omega⟩ Try.underlying83 (zeroBs wr) false
      rw [← hV] at this
      exact this
    have hs := at_sees M1.out (i : Int)
    rw [← hV] at hs
    obtain ⟨L, hL⟩ : ∃ L, L = y.at (i : Int) := ⟨_, rfl⟩
    rw [← hL] at hs
    obtain ⟨va, vc, hVs, _⟩ := hs.shape
    subst hVs
    obtain ⟨ua, uc, hu⟩ := slice_of_own HJ.out.1
    obtain ⟨K, hK⟩ : ∃ K, K = y.bytes i := ⟨_, rfl⟩
    have hKl : K.length ≤ 4800 := by rw [hK]; have := bytes_len HL.out i; omega
    have hLl : L.length ≤ 48 := by rw [hL]; exact at_len HL.out _
    rw [← hK] at hu HJ
    subst hu
    have HS := Lib.hid (And.intro hs (And.intro hL hK))
    have HKL := Lib.hid (And.intro hKl hLl)
    clear hV hs hL hK hKl hLl
    go_wp2_with (at_builtin; refine wpList_append_sep rfl (.tmp 12) (.tmp 18) 23 23 rfl 0 5 i0 (.int .u8 0) 1 1 Try.underlying23 _ Try.underlying23 (.inr ⟨_, rfl⟩) hi hz0 hz1 hz2 rfl (by decide) (.slice ua K.length uc) K.length (K.map bv) rfl HJ.out.1 _ L.length (L.map bv) rfl (lenOf_slice _ _ _) (by rw [List.length_map, Nat.mul_one]) HS.out.1.first HS.out.1.drew.first (bv_one _) ?b1 ?b2 (Nat.zero_le _) ?grow)
    case b1 => have := HKL.out; unfold maxLen; omega
    case b2 => have := HKL.out; omega
    case grow =>
      intro v' w' hown hgr hv
      have MN : Hid (Made v' (y.bytes (i + 1)) w w') := Lib.hid (by
        rw [bytes_succ, ← HS.out.2.1, ← HS.out.2.2]
        exact Made.append HJ.out (Fr.refl _ _) rfl hown hgr hv)
      clear hown hgr hv hlk m0 m1 m2 m3
      go_wp2_with fail
      go_roundg (n - (i + 1))
      case measure => omega
      case rel => exact ⟨i + 1, by omega, rfl, by congr 1, MN⟩
end
end
section
open Go.RowKit Go.MapKept
set_option maxRecDepth 100000

/-- A message that is not whole, told without memory. -/
structure PM where
  f : Int
  k : Int
  m : Int
  ps : List (Int × List UInt8)
def MsgN.pm (y : MsgN) : PM := ⟨y.f, y.k, y.m, y.ps.map fun e => (e.1, e.2.2)⟩
def PM.keys (y : PM) : List Int := y.ps.map Prod.fst
def PM.at (y : PM) (i : Int) : List UInt8 := ((y.ps.find? (fun e => decide (e.1 = i))).map Prod.snd).getD []
def PM.bytes (y : PM) (n : Nat) : List UInt8 := ((List.range n).map (fun (i : Nat) => y.at (i : Int))).flatten
theorem pm_keys (y : MsgN) : y.pm.keys = y.keys := by simp [MsgN.pm, PM.keys, MsgN.keys]
theorem pm_at (y : MsgN) (i : Int) : y.pm.at i = y.at i := by
  unfold PM.at MsgN.at MsgN.pm
  dsimp only
  rw [List.find?_map]
  cases hf : y.ps.find? ((fun e => decide (e.1 = i)) ∘ fun e => (e.1, e.2.2)) with
  | none =>
    have : y.ps.find? (fun e => decide (e.1 = i)) = none := hf
    rw [this]; rfl
  | some e =>
    have : y.ps.find? (fun e => decide (e.1 = i)) = some e := hf
    rw [this]; rfl
theorem pm_bytes (y : MsgN) (n : Nat) : y.pm.bytes n = y.bytes n := by
  unfold PM.bytes MsgN.bytes
  simp only [pm_at]

structure TabS where
  o : Option PM
  d : List IdN

def PM.put (y : PM) (x : Pc) : PM := if x.p ∉ y.keys ∧ x.m = y.m then ⟨y.f, y.k, y.m, y.ps ++ [(x.p, x.l)]⟩ else y
def putM (y : PM) (d : List IdN) : TabS × Option (List UInt8) :=
  if (y.ps.length : Int) < y.m then (⟨some y, d⟩, none) else (⟨none, d ++ [(y.f, y.k)]⟩, some (y.bytes y.m.toNat))
/-- What Put makes of a table, and what it tells. -/
def putS (T : TabS) (x : Pc) : TabS × Option (List UInt8) :=
  if x.chk ≠ 0 ∨ (x.f, x.k) ∈ T.d then (T, none) else putM ((T.o.getD ⟨x.f, x.k, x.m, []⟩).put x) T.d

def OkLens (y : MsgN) : Prop := ∀ e ∈ y.ps, e.2.2.length ≤ 48

/-- A table in memory. -/
def TabV (w : World) (b B : Nat) (T : TabS) : Prop :=
  ∃ ov dv o, TabAt w b B ov dv o T.d ∧ o.map (fun z => z.1.pm) = T.o ∧ ∀ y g p, o = some (y, g, p) → OkLens y

theorem TabV.fr0 {w w' : World} {b B : Nat} {T : TabS} (h : TabV w b B T) (f : Fr (fun _ => False) w w') : TabV w' b B T := by
  obtain ⟨ov, dv, o, h1, h2, h3⟩ := h
  exact ⟨ov, dv, o, h1.fr0 f, h2, h3⟩

theorem eql_nil : ∀ (a : Option Addr) (W : World), (binOp .eql 79 (.pointer a) (.pointer none)).run Try.prog W = .ok (.bool a.isNone) W := fun a W => by
  cases a with
  | none => kernel_rfl
  | some a => kernel_rfl

def fv (o : Option (MsgN × Nat × Nat)) : Option Addr := o.map fun z => ⟨z.2.1, 0, none⟩

theorem find_any {b B : Nat} {ov dv : Value} {d : List IdN} (w : World) (o : Option (MsgN × Nat × Nat)) (h : TabAt w b B ov dv o d) (x : IdN) (hr : ∀ y g p, o = some (y, g, p) → (y.f, y.k) = x) :
    Calls Try.prog 36 #[ptr b, kv x] w fun e w' => e = .returned (.pointer (fv o)) ∧ Fr (fun _ => False) w w' := by
  match o, h, hr with
  | none, h, _ => exact find_none w h x
  | some (y, g, p), h, hr =>
    rw [← hr y g p rfl]
    exact find_some w h

/-- A part stored: the table's memory then. -/
theorem TabAt.stored {b B : Nat} {ov dv : Value} {d : List IdN} {w w' : World} {y y' : MsgN} {g p : Nat} (h : TabAt w b B ov dv (some (y, g, p)) d) (hm : MsgAt w' B g p ov y') (f : Fr (fun k => k = p) w w') : TabAt w' b B ov dv (some (y', g, p)) d := by
  have hp := h.row.2.b1
  have hb := h.bB
  refine ⟨crow_kept h.here f (by omega), ⟨row_kept h.row.1 f (fun k hk e => row_nm h.row.1 h.row.2.map (by rw [hk, e])), hm⟩, h.done.fr f (fun n hn e => ?_), fun y2 g2 p2 e => ?_, h.bB, Nat.le_trans h.Bw f.size⟩
  · exact h.ap y g p rfl (by rw [hn, e])
  · cases e
    exact h.ap y g p rfl

section
variable {b B : Nat}

theorem tput_any (w : World) (T : TabS) (x : Pc) (a : Option Addr) (c : Nat) (hT : TabV w b B T) (ht : x.ty) (hs : Sees w (.slice a x.l.length c) x.l) (hv : x.l = [] ∨ ∀ k, (Value.slice a x.l.length c).ownBlock = some k → k ≠ b ∧ k < B)
    (hr : ∀ m, T.o = some m → m.f = x.f ∧ m.k = x.k) :
    Calls Try.prog 17 #[ptr b, x.val (.slice a x.l.length c)] w fun e w' => ∃ r, e = .returned (.tuple #[r, .bool (putS T x).2.isSome]) ∧ TabV w' b B (putS T x).1 ∧ Fr (fun k => k = b ∨ B ≤ k) w w' ∧
      ((putS T x).2 = none → r = nilS) ∧ ∀ s, (putS T x).2 = some s → Sees w' r s := by
  obtain ⟨f, k, n, m, l⟩ := x
  dsimp only at *
  obtain ⟨R, hR⟩ : ∃ R, R = putS T ⟨f, k, n, m, l⟩ := ⟨_, rfl⟩
  rw [← hR]
  obtain ⟨ov, dv, o, hT0, ho, hol⟩ := hT
  have q0 := heap_alloc_new w (oPv f k n m (.slice a l.length c))
  have f0 : Fr (fun _ => False) w (w.alloc (oPv f k n m (.slice a l.length c))) := (Fr.refl _ _).alloc _
  have H0 := Lib.hid (And.intro (hT0.fr0 f0) (And.intro (hs.fr f0 (fun _ _ h => h)) (And.intro q0 f0)))
  obtain ⟨g3, hg3⟩ : ∃ g3, g3 = w.heap.size := ⟨_, rfl⟩
  rw [← hg3] at H0
  have HG3 : Hid (g3 ≠ b ∧ B ≤ g3 ∧ ∀ z, ov.ownBlock = some z → z ≠ g3) := Lib.hid ⟨by have := vt_lt hT0.here; omega, by have := hT0.Bw; omega, fun z hz => by
    have hh : ∀ n xs, w.ownsRow B 79 1 ov n xs → z < w.heap.size := fun n xs h => (row_lt h z hz).2
    have hrow := hT0.row
    match o, hrow with
    | none, hrow => have := hh _ _ hrow; omega
    | some (y, g, p), hrow => have := hh _ _ hrow.1; omega⟩
  have HV := Lib.hid hv
  have HR := Lib.hid hR
  have HO := Lib.hid (And.intro ho hol)
  have HRD := Lib.hid hr
  have HTY := Lib.hid ht
  have hwb : w.heap[b]? ≠ none := by rw [hT0.here]; simp
  clear hT0 ho hol q0 f0 hs hv hR hr ht hwb
  go_enter Try.func17, Try.ntmps17
  go_upto_region 1 with fail
  rw [← hg3]
  clear hg3
  generalize w.alloc (oPv f k n m (.slice a l.length c)) = w0 at *
  obtain ⟨c0, c1, c2, c3, c4⟩ := par_cells H0.out.2.2.1
  go_wp2_with fail
  refine (pcheck_any f k n m a l.length c w0).mono ?_
  rintro e w1 ⟨rfl, f1⟩
  have H1 := Lib.hid (And.intro (H0.out.1.fr0 f1) (And.intro (H0.out.2.1.fr f1 (fun _ _ h => h)) (And.intro (crow_kept H0.out.2.2.1 f1 (fun h => h)) (H0.out.2.2.2.trans f1 (fun _ _ h => h)))))
  clear f1 H0 c0 c1 c2 c3 c4
  obtain ⟨C, hC⟩ : ∃ C, C = pchk f n m l.length := ⟨_, rfl⟩
  rw [← hC]
  have HC : Hid (C = (⟨f, k, n, m, l⟩ : Pc).chk) := Lib.hid hC
  clear hC
  dsimp only
  by_cases h0 : C = 0
  case neg =>
    have hRz : R = (T, none) := by rw [HR.out]; unfold putS; rw [if_pos (.inl (by rw [← HC.out]; exact h0))]
    have HRz := Lib.hid hRz
    clear hRz
    have hb : (C != 0) = true := by simpa using h0
    clear h0
    go_wp2_with fail
    go_ret2
    rw [HRz.out]
    exact ⟨nilS, rfl, ⟨ov, dv, o, H1.out.1, HO.out.1, HO.out.2⟩, H1.out.2.2.2.mono (fun _ _ h => h.elim), fun _ => rfl, fun s h => (by cases h)⟩
  subst h0
  have hck : pchk f n m l.length = 0 := HC.out.symm
  have hbnd := pchk_ok hck
  have HID : Hid (IdOk (f, k)) := Lib.hid ⟨⟨hbnd.1.1, hbnd.1.2⟩, HTY.out.1, HTY.out.2⟩
  have HB := Lib.hid hbnd
  clear hck hbnd
  obtain ⟨c0, c1, c2, c3, c4⟩ := par_cells H1.out.2.2.1
  go_wp2_with fail
  refine (pid_any f k n m (.slice a l.length c) w1).mono ?_
  rintro e w2 ⟨rfl, f2⟩
  have H2 := Lib.hid (And.intro (H1.out.1.fr0 f2) (And.intro (H1.out.2.1.fr f2 (fun _ _ h => h)) (And.intro (crow_kept H1.out.2.2.1 f2 (fun h => h)) (H1.out.2.2.2.trans f2 (fun _ _ h => h)))))
  clear f2 H1 c0 c1 c2 c3 c4
  dsimp only
  go_wp2_with fail
  refine (was_any w2 H2.out.1 (f, k) HID.out).mono ?_
  rintro e w3 ⟨rfl, f3⟩
  have H3 := Lib.hid (And.intro (H2.out.1.fr0 f3) (And.intro (H2.out.2.1.fr f3 (fun _ _ h => h)) (And.intro (crow_kept H2.out.2.2.1 f3 (fun h => h)) (H2.out.2.2.2.trans f3 (fun _ _ h => h)))))
  clear f3 H2
  dsimp only
  by_cases hd : (f, k) ∈ T.d
  case pos =>
    have hRz : R = (T, none) := by rw [HR.out]; unfold putS; rw [if_pos (.inr hd)]
    have HRz := Lib.hid hRz
    clear hRz
    have hb : decide ((f, k) ∈ T.d) = true := by simpa using hd
    rw [hb]
    clear hd hb
    go_wp2_with fail
    go_ret2
    rw [HRz.out]
    exact ⟨nilS, rfl, ⟨ov, dv, o, H3.out.1, HO.out.1, HO.out.2⟩, H3.out.2.2.2.mono (fun _ _ h => h.elim), fun _ => rfl, fun s h => (by cases h)⟩
  obtain ⟨y0, hy0⟩ : ∃ y0, y0 = T.o.getD ⟨f, k, m, []⟩ := ⟨_, rfl⟩
  have HR3 : Hid (R = putM (y0.put ⟨f, k, n, m, l⟩) T.d) := Lib.hid (by
    rw [HR.out]; unfold putS
    rw [if_neg (fun h => by
      rcases h with h | h
      · exact h HC.out.symm
      · exact hd h), hy0])
  have hb : decide ((f, k) ∈ T.d) = false := by simpa using hd
  rw [hb]
  have HND := Lib.hid hd
  have HY0 := Lib.hid hy0
  clear hd hb hy0 HR
  obtain ⟨c0, c1, c2, c3, c4⟩ := par_cells H3.out.2.2.1
  go_upto_region 3 with fail
  go_wp2_with fail
  refine (pid_any f k n m (.slice a l.length c) w3).mono ?_
  rintro e w4 ⟨rfl, f4⟩
  have H4 := Lib.hid (And.intro (H3.out.1.fr0 f4) (And.intro (H3.out.2.1.fr f4 (fun _ _ h => h)) (And.intro (crow_kept H3.out.2.2.1 f4 (fun h => h)) (H3.out.2.2.2.trans f4 (fun _ _ h => h)))))
  clear f4 H3 c0 c1 c2 c3 c4
  dsimp only
  go_wp2_with fail
  refine (find_any w4 o H4.out.1 (f, k) (fun y g p e => by
    have h1 := HO.out.1
    rw [e] at h1
    have h2 := HRD.out y.pm h1.symm
    exact Prod.ext h2.1 h2.2)).mono ?_
  rintro e w5 ⟨rfl, f5⟩
  have H5 := Lib.hid (And.intro (H4.out.1.fr0 f5) (And.intro (H4.out.2.1.fr f5 (fun _ _ h => h)) (And.intro (crow_kept H4.out.2.2.1 f5 (fun h => h)) (H4.out.2.2.2.trans f5 (fun _ _ h => h)))))
  clear f5 H4
  obtain ⟨va, hva⟩ : ∃ va, va = fv o := ⟨_, rfl⟩
  rw [← hva]
  have HVA := Lib.hid hva
  have heq := eql_nil va
  obtain ⟨bb, hbb⟩ : ∃ bb, bb = va.isNone := ⟨_, rfl⟩
  rw [← hbb] at heq
  have HBB := Lib.hid hbb
  clear hva hbb
  obtain ⟨c0, c1, c2, c3, c4⟩ := par_cells H5.out.2.2.1
  dsimp only
  go_upto_region 4 with fail
  go_upto_if 25 with fail
  clear heq
  go_cut [6] from 26 to 28 (fun z wx => ∃ ov' y g p, z = ptr g ∧ TabAt wx b B ov' dv (some (y, g, p)) T.d ∧ y.pm = y0 ∧ OkLens y ∧ Fr (fun k => k = b ∨ B ≤ k) w wx ∧ Sees wx (.slice a l.length c) l ∧ wx.heap[g3]? = some (oPv f k n m (.slice a l.length c)))
  case first =>
    cases bb with
    | false =>
      match o, HO, HVA, H5 with
      | none, HO, HVA, H5 =>
        exfalso
        have := HBB.out
        rw [HVA.out] at this
        cases this
      | some (y, g, p), HO, HVA, H5 =>
        have hvg : va = some ⟨g, 0, none⟩ := HVA.out
        subst hvg
        go_wp2_with fail
        go_meet
        have hy : y.pm = y0 := by
          have := HO.out.1
          rw [HY0.out, ← this]
          rfl
        exact ⟨ov, y, g, p, rfl, H5.out.1, hy, HO.out.2 y g p rfl, H5.out.2.2.2.mono (fun _ _ h => h.elim), H5.out.2.1, H5.out.2.2.1⟩
    | true =>
      match o, HO, HVA, H5 with
      | some (y, g, p), HO, HVA, H5 =>
        exfalso
        have := HBB.out
        rw [HVA.out] at this
        cases this
      | none, HO, HVA, H5 =>
        go_wp2_with fail
        refine (start_any w5 H5.out.1 ⟨f, k, n, m, l⟩ a c HID.out ⟨HB.out.2.1.1, HB.out.2.1.2⟩).mono ?_
        rintro e w6 ⟨g, p, ov', rfl, hst⟩
        have HST := Lib.hid hst
        clear hst
        dsimp only
        go_wp2_with fail
        go_meet
        have hy : MsgN.pm ⟨f, k, m, []⟩ = y0 := by
          have := HO.out.1
          rw [HY0.out, ← this]
          rfl
        have hrow := H5.out.1.row
        refine ⟨ov', ⟨f, k, m, []⟩, g, p, rfl, HST.out.tab, hy, fun e he => (by cases he), (H5.out.2.2.2.mono (fun _ _ h => h.elim)).trans HST.out.fr (fun i _ h => ?_), ?_, crow_kept H5.out.2.2.1 HST.out.fr (fun h => ?_)⟩
        · rcases h with h | h
          · exact .inl h
          · exact .inr (row_lt hrow i h).1
        · rcases HV.out with e | e
          · subst e
            rcases H5.out.2.1 with ⟨_, a1, c1, e1⟩ | ⟨g1, o1, c1, e1, _, _⟩
            · exact .inl ⟨rfl, _, _, rfl⟩
            · exact .inl ⟨rfl, _, _, rfl⟩
          · exact H5.out.2.1.fr HST.out.fr (fun k hk h => by
              have := e k hk
              rcases h with h | h
              · exact this.1 h
              · have := (row_lt hrow k h).1
                omega)
        · rcases h with h | h
          · exact HG3.out.1 h
          · exact HG3.out.2.2 g3 h rfl
  case rest =>
    clear c0 c1 c2 c3 c4
    obtain ⟨ov6, y, g, p, rfl, hT6, hy6, hl6, hf6, hs6, hq6⟩ := hcut
    have H6 := Lib.hid (And.intro hT6 (And.intro hy6 (And.intro hl6 (And.intro hf6 (And.intro hs6 hq6)))))
    clear hT6 hy6 hl6 hf6 hs6 hq6 H5
    obtain ⟨c0, c1, c2, c3, c4⟩ := par_cells H6.out.2.2.2.2.2
    go_wp2_with fail
    refine (store_any wc y H6.out.1.row.2 ⟨f, k, n, m, l⟩ a c H6.out.2.2.2.2.1 ⟨HB.out.2.2.1.1, by have := HB.out; show n ≤ 1000; omega⟩ (by have := HB.out.2.2.2.1; show l.length ≤ 1000; omega) H6.out.1.Bw (fun k hk => (row_lt H6.out.1.row.1 k hk).2)).mono ?_
    rintro e w7 ⟨rfl, hst⟩
    obtain ⟨y7, hT7, hy7, hl7, hf7⟩ : ∃ y7, TabAt w7 b B ov6 dv (some (y7, g, p)) T.d ∧ y7.pm = y0.put ⟨f, k, n, m, l⟩ ∧ OkLens y7 ∧ Fr (fun k => k = b ∨ B ≤ k) w w7 := by
      have hpB := H6.out.1.row.2.b1
      rcases hst with ⟨htk, v', hm, fr⟩ | ⟨htk, hm, fr⟩
      · refine ⟨y.add n v' l, H6.out.1.stored hm fr, ?_, ?_, H6.out.2.2.2.1.trans fr (fun i _ e => .inr (by omega))⟩
        · rw [← H6.out.2.1]
          unfold PM.put
          rw [if_pos ⟨by rw [pm_keys]; exact htk.1, htk.2⟩]
          unfold MsgN.add MsgN.pm
          dsimp only
          rw [List.map_append]
          rfl
        · intro e he
          rcases List.mem_append.1 he with he | he
          · exact H6.out.2.2.1 e he
          · simp at he
            subst he
            exact HB.out.2.2.2.1
      · refine ⟨y, H6.out.1.fr0 fr, ?_, H6.out.2.2.1, H6.out.2.2.2.1.trans fr (fun _ _ h => h.elim)⟩
        rw [← H6.out.2.1]
        unfold PM.put
        rw [if_neg (fun h => htk ⟨by rw [← pm_keys]; exact h.1, h.2⟩)]
    have H7 := Lib.hid (And.intro hT7 (And.intro hy7 (And.intro hl7 hf7)))
    clear hst hT7 hy7 hl7 hf7 H6 c0 c1 c2 c3 c4
    obtain ⟨Y, hY⟩ : ∃ Y, Y = y0.put ⟨f, k, n, m, l⟩ := ⟨_, rfl⟩
    rw [← hY] at HR3 H7
    have HYK : Hid ((Y.f, Y.k) = (f, k)) := Lib.hid (by
      have h1 : (y0.f, y0.k) = (f, k) := by
        rw [HY0.out]
        cases ho : T.o with
        | none => rfl
        | some m0 =>
          have := HRD.out m0 ho
          exact Prod.ext this.1 this.2
      rw [hY]
      unfold PM.put
      by_cases hp : n ∉ y0.keys ∧ m = y0.m
      · rw [if_pos hp]; exact h1
      · rw [if_neg hp]; exact h1)
    clear hY
    have hlen : (Builtin.len_ #[83] 3 #[.map (some p)]).run Try.prog w7.drew = .ok (.int .i64 Y.ps.length) w7.drew := by
      have := (H7.out.1.row.2.map.fr (Fr.refl (fun _ => False) w7).drew (fun h => h)).len Try.underlying83 3
      have e : y7.ents.length = Y.ps.length := by rw [← H7.out.2.1]; simp [MsgN.ents, MsgN.pm]
      rw [e] at this
      exact this
    obtain ⟨m0, m1, m2, m3⟩ := msg_cells H7.out.1.row.2.here
    have hYm : y7.m = Y.m := by rw [← H7.out.2.1]; rfl
    rw [hYm] at m2
    dsimp only
    go_upto_region 7 with fail
    go_region
    clear hlen m0 m1 m2 m3
    have T8 := Lib.hid (H7.out.1.fr0 (Fr.refl (fun _ => False) w7).drew)
    have F8 := Lib.hid (H7.out.2.2.2.drew)
    generalize w7.drew = w8 at *
    by_cases hw : (Y.ps.length : Int) < Y.m
    case pos =>
      have hRz : R = (⟨some Y, T.d⟩, none) := by rw [HR3.out]; unfold putM; rw [if_pos hw]
      have HRz := Lib.hid hRz
      clear hRz
      go_wp2_with fail
      go_ret2
      rw [HRz.out]
      exact ⟨nilS, rfl, ⟨ov6, dv, _, T8.out, by rw [← H7.out.2.1]; rfl, fun y g p e => by cases e; exact H7.out.2.2.1⟩, F8.out, fun _ => rfl, fun s h => (by cases h)⟩
    have hRz : R = (⟨none, T.d ++ [(Y.f, Y.k)]⟩, some (Y.bytes Y.m.toNat)) := by rw [HR3.out]; unfold putM; rw [if_neg hw]
    have HRz := Lib.hid hRz
    clear hRz
    have hfk : (y7.f, y7.k) = (Y.f, Y.k) := by rw [← H7.out.2.1]; rfl
    have hyk : (Y.f, Y.k) = (f, k) := HYK.out
    have HFK := Lib.hid (And.intro hfk hyk)
    clear hfk hyk
    go_wp2_with fail
    refine (complete_any w8 T8.out (by rw [HFK.out.1, HFK.out.2]; exact HND.out)).mono ?_
    rintro e w9 ⟨rfl, ov9, dv9, hW⟩
    have H9 := Lib.hid hW
    clear hW
    dsimp only
    go_wp2_with fail
    refine (mbytes_any w9 y7 H9.out.msg H7.out.2.2.1).mono ?_
    rintro e w10 ⟨r, rfl, hm⟩
    have H10 := Lib.hid hm
    clear hm
    dsimp only
    go_wp2_with fail
    go_ret2
    rw [HRz.out]
    refine ⟨r, rfl, ⟨ov9, dv9, none, ?_, rfl, fun _ _ _ h => (by cases h)⟩, ((F8.out.trans H9.out.fr (fun _ _ h => h)).trans H10.out.2.1 (fun _ _ h => h.elim)), fun h => (by cases h), fun s h => ?_⟩
    · have := H9.out.tab.fr0 H10.out.2.1
      rw [HFK.out.1] at this
      exact this
    · cases h
      have := H10.out.1.sees
      rw [← pm_bytes, H7.out.2.1, hYm] at this
      exact this
end
end
section
set_option maxRecDepth 100000

theorem chkB {n : Nat} : ((0 : Int) < (n : Int)) ↔ 0 < n := by omega

theorem Sees.off {w w' : World} {v : Value} {l : List UInt8} {g : Nat} (h : Sees w v l) (f : Fr (fun k => k = g) w w') (hg : l = [] ∨ ∀ z, v.ownBlock = some z → z ≠ g) : Sees w' v l := by
  rcases hg with rfl | hg
  · rcases h with ⟨_, a, c, rfl⟩ | ⟨g1, o1, c1, rfl, _, _⟩
    · exact .inl ⟨rfl, _, _, rfl⟩
    · exact .inl ⟨rfl, _, _, rfl⟩
  · exact h.fr f hg

/-- Put of whatever parcel. -/
theorem pput_any (f k p m : Int) (v : Value) (l : List UInt8) (w : World) (hs : Sees w v l) (hk : 0 ≤ k ∧ k ≤ 4294967295) :
    Calls Try.prog 10 #[pv f k p m v] w fun e w' => ∃ a n c, e = .returned (.tuple #[.slice a n c, .int .i64 (pchk f p m l.length)]) ∧ (pchk f p m l.length = 0 ↔ 0 < n) ∧ Fr (fun _ => False) w w' := by
  by_cases hc : pchk f p m l.length = 0
  · refine (pput_ok f k p m v l w hs hk hc).mono ?_
    rintro e w1 ⟨x, rfl, hm⟩
    obtain ⟨a, c, rfl, _⟩ := hm.1.sees.shape
    rw [hc]
    refine ⟨a, _, c, rfl, ⟨fun _ => ?_, fun _ => rfl⟩, hm.2.1⟩
    unfold parS
    rw [summed_length]
    omega
  · refine (pput_err f k p m v l w hs hc).mono ?_
    rintro e w1 ⟨rfl, f1⟩
    exact ⟨none, 0, 0, rfl, ⟨fun h => absurd h hc, fun h => absurd h (by decide)⟩, f1⟩

theorem tlenV {b B : Nat} {T : TabS} (w : World) (h : TabV w b B T) :
    Calls Try.prog 18 #[ptr b] w fun e w' => e = .returned (.int .i64 (if T.o.isSome then 1 else 0)) ∧ w = w' := by
  obtain ⟨ov, dv, o, h1, h2, _⟩ := h
  have := tlen_any w h1
  rw [← h2]
  cases o with
  | none => exact this
  | some z => exact this

theorem tab_new {w : World} {b B : Nat} (h : w.heap[b]? = some (oTab nilS (.map none))) (hb : b < B) (hB : B ≤ w.heap.size) : TabV w b B ⟨none, []⟩ :=
  ⟨nilS, .map none, none, ⟨h, World.ownsRow_nil _ _ _ _, .inl ⟨rfl, rfl⟩, fun _ _ _ e => (by cases e), hb, hB⟩, rfl, fun _ _ _ e => (by cases e)⟩

theorem checks_law (s : Sm) (a : Option Addr) (c : Nat) (what n : Int) (w : World) (hok : s.ok) (hs : Sees w (.slice a s.l.length c) s.l) (h0 : 0 ≤ what) (h1 : what ≤ 255) :
    Calls Try.prog 6 #[smV s.f s.k s.p s.m (.slice a s.l.length c), .int .u8 what, .int .i64 n] w fun e w' => e = .returned (.bool true) ∧ Fr (fun _ => False) w w' := by
  have q0 := heap_alloc_new w (oSm s.f s.k s.p s.m (.slice a s.l.length c))
  have f0 : Fr (fun _ => False) w (w.alloc (oSm s.f s.k s.p s.m (.slice a s.l.length c))) := (Fr.refl _ _).alloc _
  have HOK := Lib.hid hok
  have HS := Lib.hid hs
  clear hs hok
  go_enter Try.func6, Try.ntmps6
  go_upto_region 1 with fail
  generalize w.alloc (oSm s.f s.k s.p s.m (.slice a s.l.length c)) = w0 at *
  generalize w.heap.size = g3 at *
  have Q0 := Lib.hid q0
  have F0 := Lib.hid f0
  clear q0 f0
  go_wp2_with fail
  refine (pawake_any w0).mono ?_
  rintro e w1 ⟨rfl, f1⟩
  have Q1 := Lib.hid (crow_kept Q0.out f1 (fun h => h))
  have F1 := Lib.hid (F0.out.trans f1 (fun _ _ h => h))
  clear f1 Q0 F0
  obtain ⟨c0, c1, c2, c3, c4⟩ := par_cells Q1.out
  dsimp only
  by_cases hl : s.l.length ≤ 100
  case neg =>
    have hl' : (100 : Int) < (s.l.length : Int) := by omega
    clear hl
    go_wp2_with fail
    go_ret
    exact ⟨rfl, F1.out⟩
  have hl' : ¬ (100 : Int) < (s.l.length : Int) := by omega
  have HL := Lib.hid hl
  clear hl
  go_wp2_with fail
  refine (small_any s a c w1 HOK.out (HS.out.fr F1.out (fun _ _ h => h)) HL.out).mono ?_
  rintro e w2 ⟨v2, rfl, hm2⟩
  obtain ⟨x, hx⟩ : ∃ x, x = s.pc := ⟨_, rfl⟩
  have hgood := Sm.good HOK.out
  rw [← hx] at hm2 hgood ⊢
  have hc := hgood.1
  obtain ⟨f, k, p, m, l⟩ := x
  have hb := pchk_ok hc
  have HB := Lib.hid hb
  have HTY : Hid (0 ≤ k ∧ k ≤ 4294967295) := Lib.hid hgood.2
  dsimp only at hm2
  obtain ⟨a2, c2', rfl, _⟩ := hm2.1.sees.shape
  have S2 := Lib.hid hm2.1.sees
  have F2 := Lib.hid (F1.out.trans hm2.2.1 (fun _ _ h => h))
  have SZ2 : Hid (w1.heap.size ≤ w2.heap.size) := Lib.hid hm2.2.1.size
  clear hm2 hgood hc hx hl' hb c0 c1 c2 c3 c4 Q1 F1
  dsimp only
  go_upto_region 6 with fail
  have q3 := heap_alloc_new w2 (oPv f k p m (.slice a2 l.length c2'))
  have f3 : Fr (fun _ => False) w2 (w2.alloc (oPv f k p m (.slice a2 l.length c2'))) := (Fr.refl _ _).alloc _
  generalize w2.alloc (oPv f k p m (.slice a2 l.length c2')) = w3 at *
  obtain ⟨g7, hg7⟩ : ∃ g, g = w2.heap.size := ⟨_, rfl⟩
  rw [← hg7] at q3 ⊢
  have Q3 := Lib.hid q3
  have F3 := Lib.hid (F2.out.trans f3 (fun _ _ h => h))
  have S3 := Lib.hid (S2.out.fr f3 (fun _ _ h => h))
  have G7 : Hid (w.heap.size ≤ g7 ∧ (l = [] ∨ ∀ z, (Value.slice a2 l.length c2').ownBlock = some z → z ≠ g7)) := Lib.hid (by
    refine ⟨by have := F2.out.size; omega, ?_⟩
    by_cases h : l = []
    · exact .inl h
    · right
      intro z hz e
      subst e
      rcases S2.out with ⟨h', _⟩ | ⟨g, o, cc, e1, _, hcc⟩
      · exact h h'
      · rw [e1] at hz
        simp [Value.ownBlock] at hz
        have := World.block_lt_of_cell? w2 _ (hcc 0 (List.length_pos_iff.2 h))
        simp at this
        omega)
  clear q3 f3 F2 S2 SZ2 hg7
  obtain ⟨kd, hkd⟩ : ∃ kd, kd = what % 5 := ⟨_, rfl⟩
  have wk : IntKind.u8.wrap (what % 5) = what % 5 := by rw [IntKind.wrap_u8]; omega
  have hkb : 0 ≤ kd ∧ kd ≤ 4 := by omega
  go_upto_block 0 with fail
  try rw [← hkd]
  clear wk hkd
  go_cut [8] from 25 to 105 (fun z wx => ∃ (x' : Pc) (a' : Option Addr) (c' : Nat), z = .int .i64 x'.chk ∧ x'.ty ∧ wx.heap[g7]? = some (oPv x'.f x'.k x'.p x'.m (.slice a' x'.l.length c')) ∧ Sees wx (.slice a' x'.l.length c') x'.l ∧ Fr (fun _ => False) w wx)
  case first =>
    have hfr : ∀ i u, Fr (fun _ => False) w (w3.setCell ⟨g7, i, none⟩ u) := fun i u => F3.out.setCell (p := ⟨g7, i, none⟩) (fun h => absurd h (by have := G7.out.1; show ¬ g7 < _; omega)) u
    have hf1 : ∀ i u, Fr (fun k => k = g7) w3 (w3.setCell ⟨g7, i, none⟩ u) := fun i u => (Fr.refl (fun k => k = g7) w3).setCell (p := ⟨g7, i, none⟩) (fun _ => rfl) u
    have DA : Hid (∀ C : Int, pchk n p m l.length = C → ∃ (x' : Pc) (a' : Option Addr) (c' : Nat), Value.int .i64 C = .int .i64 x'.chk ∧ x'.ty ∧ (w3.setCell ⟨g7, 0, none⟩ (.int .i64 n)).heap[g7]? = some (oPv x'.f x'.k x'.p x'.m (.slice a' x'.l.length c')) ∧ Sees (w3.setCell ⟨g7, 0, none⟩ (.int .i64 n)) (.slice a' x'.l.length c') x'.l ∧ Fr (fun _ => False) w (w3.setCell ⟨g7, 0, none⟩ (.int .i64 n))) :=
      Lib.hid (fun C hC => ⟨⟨n, k, p, m, l⟩, a2, c2', by rw [← hC]; rfl, HTY.out, heap_setCell_same w3 g7 0 _ _ _ Q3.out, S3.out.off (hf1 0 _) G7.out.2, hfr 0 _⟩)
    have DB : Hid (∀ C : Int, pchk f n m l.length = C → ∃ (x' : Pc) (a' : Option Addr) (c' : Nat), Value.int .i64 C = .int .i64 x'.chk ∧ x'.ty ∧ (w3.setCell ⟨g7, 2, none⟩ (.int .i64 n)).heap[g7]? = some (oPv x'.f x'.k x'.p x'.m (.slice a' x'.l.length c')) ∧ Sees (w3.setCell ⟨g7, 2, none⟩ (.int .i64 n)) (.slice a' x'.l.length c') x'.l ∧ Fr (fun _ => False) w (w3.setCell ⟨g7, 2, none⟩ (.int .i64 n))) :=
      Lib.hid (fun C hC => ⟨⟨f, k, n, m, l⟩, a2, c2', by rw [← hC]; rfl, HTY.out, heap_setCell_same w3 g7 2 _ _ _ Q3.out, S3.out.off (hf1 2 _) G7.out.2, hfr 2 _⟩)
    have DC : Hid (∀ C : Int, pchk f p n l.length = C → ∃ (x' : Pc) (a' : Option Addr) (c' : Nat), Value.int .i64 C = .int .i64 x'.chk ∧ x'.ty ∧ (w3.setCell ⟨g7, 3, none⟩ (.int .i64 n)).heap[g7]? = some (oPv x'.f x'.k x'.p x'.m (.slice a' x'.l.length c')) ∧ Sees (w3.setCell ⟨g7, 3, none⟩ (.int .i64 n)) (.slice a' x'.l.length c') x'.l ∧ Fr (fun _ => False) w (w3.setCell ⟨g7, 3, none⟩ (.int .i64 n))) :=
      Lib.hid (fun C hC => ⟨⟨f, k, p, n, l⟩, a2, c2', by rw [← hC]; rfl, HTY.out, heap_setCell_same w3 g7 3 _ _ _ Q3.out, S3.out.off (hf1 3 _) G7.out.2, hfr 3 _⟩)
    have DD : Hid (∀ C : Int, pchk f p m 0 = C → ∃ (x' : Pc) (a' : Option Addr) (c' : Nat), Value.int .i64 C = .int .i64 x'.chk ∧ x'.ty ∧ (w3.setCell ⟨g7, 4, none⟩ nilS).heap[g7]? = some (oPv x'.f x'.k x'.p x'.m (.slice a' x'.l.length c')) ∧ Sees (w3.setCell ⟨g7, 4, none⟩ nilS) (.slice a' x'.l.length c') x'.l ∧ Fr (fun _ => False) w (w3.setCell ⟨g7, 4, none⟩ nilS)) :=
      Lib.hid (fun C hC => ⟨⟨f, k, p, m, []⟩, none, 0, by rw [← hC]; rfl, HTY.out, heap_setCell_same w3 g7 4 _ _ _ Q3.out, .inl ⟨rfl, _, _, rfl⟩, hfr 4 _⟩)
    obtain ⟨c0, c1, c2, c3, c4⟩ := par_cells Q3.out
    obtain ⟨j0, j1, j2, j3, j4⟩ := par_free Q3.out
    have hbd := HB.out
    dsimp only at hbd
    have hp0 := hbd.2.2.1.1
    have hp1 := hbd.2.2.1.2
    have hmm0 := hbd.2.1.1
    have hmm1 := hbd.2.1.2
    clear hbd hfr hf1
    rcases (show kd = 0 ∨ kd = 1 ∨ kd = 2 ∨ kd = 3 ∨ kd = 4 by omega) with h | h | h | h | h
    · subst h
      by_cases hA : n < 0
      · have HR := Lib.hid (DA.out 2 (by unfold pchk; rw [if_neg (fun h => by omega)]))
        clear DA DB DC DD
        go_wp2_with fail
        go_meet
        exact HR.out
      by_cases hB : 15 < n
      · have HR := Lib.hid (DA.out 2 (by unfold pchk; rw [if_neg (fun h => by omega)]))
        clear DA DB DC DD
        go_wp2_with fail
        go_meet
        exact HR.out
      have HR := Lib.hid (DA.out 0 (pchk_of ⟨by omega, HB.out.2⟩))
      clear DA DB DC DD
      go_wp2_with fail
      go_meet
      exact HR.out
    · subst h
      by_cases hA : n < 0
      · have HR := Lib.hid (DB.out 2 (by unfold pchk; rw [if_neg (fun h => by omega)]))
        clear DA DB DC DD
        go_wp2_with fail
        go_meet
        exact HR.out
      by_cases hB : m ≤ n
      · have HR := Lib.hid (DB.out 2 (by unfold pchk; rw [if_neg (fun h => by omega)]))
        clear DA DB DC DD
        go_wp2_with fail
        go_meet
        exact HR.out
      by_cases hC : n + 1 < m
      · by_cases hD : l.length < 48
        · have HR := Lib.hid (DB.out 6 (by have := HB.out; dsimp only at this; unfold pchk; rw [if_pos (by omega), if_neg (by omega), if_pos (by omega)]))
          have hD' : (l.length : Int) < 48 := by omega
          clear DA DB DC DD hD
          go_wp2_with fail
          go_meet
          exact HR.out
        · have HR := Lib.hid (DB.out 0 (pchk_of (by have := HB.out; dsimp only at this; omega)))
          have hD' : ¬ (l.length : Int) < 48 := by omega
          clear DA DB DC DD hD
          go_wp2_with fail
          go_meet
          exact HR.out
      · have HR := Lib.hid (DB.out 0 (pchk_of (by have := HB.out; dsimp only at this; omega)))
        clear DA DB DC DD
        go_wp2_with fail
        go_meet
        exact HR.out
    · subst h
      by_cases hA : n < 1
      · have HR := Lib.hid (DC.out 2 (by unfold pchk; rw [if_neg (fun h => by omega)]))
        clear DA DB DC DD
        go_wp2_with fail
        go_meet
        exact HR.out
      by_cases hB : 100 < n
      · have HR := Lib.hid (DC.out 2 (by unfold pchk; rw [if_neg (fun h => by omega)]))
        clear DA DB DC DD
        go_wp2_with fail
        go_meet
        exact HR.out
      by_cases hC : n ≤ p
      · have HR := Lib.hid (DC.out 2 (by unfold pchk; rw [if_neg (fun h => by omega)]))
        clear DA DB DC DD
        go_wp2_with fail
        go_meet
        exact HR.out
      by_cases hD : p + 1 < n
      · by_cases hE : l.length < 48
        · have HR := Lib.hid (DC.out 6 (by have := HB.out; dsimp only at this; unfold pchk; rw [if_pos (by omega), if_neg (by omega), if_pos (by omega)]))
          have hE' : (l.length : Int) < 48 := by omega
          clear DA DB DC DD hE
          go_wp2_with fail
          go_meet
          exact HR.out
        have hE' : ¬ (l.length : Int) < 48 := by omega
        have hF' : ((l.length : Int) == 0) = false := by simp; exact fun h => hE (by rw [h]; simp)
        have hG : 1 < n := by omega
        have HR := Lib.hid (DC.out 0 (pchk_of (by have := HB.out; dsimp only at this; omega)))
        clear DA DB DC DD hE
        go_wp2_with fail
        go_meet
        exact HR.out
      by_cases hG : 1 < n
      · by_cases hE : l.length = 0
        · have HR := Lib.hid (DC.out 6 (by have := HB.out; dsimp only at this; unfold pchk; rw [if_pos (by omega), if_neg (by omega), if_neg (by omega), if_pos (by omega)]))
          have hF' : ((l.length : Int) == 0) = true := by simp; exact List.length_eq_zero_iff.1 hE
          clear DA DB DC DD hE
          go_wp2_with fail
          go_meet
          exact HR.out
        have hF' : ((l.length : Int) == 0) = false := by simp; exact fun h => hE (by rw [h]; rfl)
        have HR := Lib.hid (DC.out 0 (pchk_of (by have := HB.out; dsimp only at this; omega)))
        clear DA DB DC DD hE
        go_wp2_with fail
        go_meet
        exact HR.out
      have HR := Lib.hid (DC.out 0 (pchk_of (by have := HB.out; dsimp only at this; omega)))
      clear DA DB DC DD
      go_wp2_with fail
      go_meet
      exact HR.out
    · subst h
      have hmk : ∀ W : World, (Instr.makeSlice 23 (.int .i64 49) (.int .i64 49)).run Try.prog W = .ok (.slice (some ⟨W.heap.size, 0, none⟩) 49 49) (W.alloc (.cells (madeCells #[.int .u8 0] 49) 5)) := fun W => make_u8 49 (by omega) W
      have hlt := vt_lt Q3.out
      have hne : g7 ≠ w3.heap.size := by omega
      have o5 := own_made (w3.setCell ⟨g7, 4, none⟩ (.slice (some ⟨w3.heap.size, 0, none⟩) 49 49)) 49 (by omega)
      rw [World.size_setCell] at o5
      have q5 : ((w3.setCell ⟨g7, 4, none⟩ (.slice (some ⟨w3.heap.size, 0, none⟩) 49 49)).alloc (.cells (madeCells #[.int .u8 0] 49) 5)).heap[g7]? = some (oPv f k p m (.slice (some ⟨w3.heap.size, 0, none⟩) 49 49)) := by
        rw [Below.heap_alloc _ _ _ (by rw [World.size_setCell]; exact hlt)]
        exact heap_setCell_same w3 g7 4 _ _ _ Q3.out
      have HR : Hid (∃ (x' : Pc) (a' : Option Addr) (c' : Nat), Value.int .i64 6 = .int .i64 x'.chk ∧ x'.ty ∧ ((w3.setCell ⟨g7, 4, none⟩ (.slice (some ⟨w3.heap.size, 0, none⟩) 49 49)).alloc (.cells (madeCells #[.int .u8 0] 49) 5)).heap[g7]? = some (oPv x'.f x'.k x'.p x'.m (.slice a' x'.l.length c')) ∧ Sees ((w3.setCell ⟨g7, 4, none⟩ (.slice (some ⟨w3.heap.size, 0, none⟩) 49 49)).alloc (.cells (madeCells #[.int .u8 0] 49) 5)) (.slice a' x'.l.length c') x'.l ∧ Fr (fun _ => False) w ((w3.setCell ⟨g7, 4, none⟩ (.slice (some ⟨w3.heap.size, 0, none⟩) 49 49)).alloc (.cells (madeCells #[.int .u8 0] 49) 5))) := Lib.hid (by
        refine ⟨⟨f, k, p, m, List.replicate 49 0⟩, some ⟨w3.heap.size, 0, none⟩, 49, ?_, HTY.out, ?_, ?_, ?_⟩
        · have : (⟨f, k, p, m, List.replicate 49 0⟩ : Pc).chk = 6 := by
            unfold Pc.chk pchk
            dsimp only
            have := HB.out
            dsimp only at this
            rw [List.length_replicate, if_pos (by omega), if_pos (by omega)]
          rw [this]
        · dsimp only; rw [List.length_replicate]; exact q5
        · dsimp only; rw [List.length_replicate]; exact o5.sees
        · exact (F3.out.setCell (p := ⟨g7, 4, none⟩) (fun h => absurd h (by have := G7.out.1; show ¬ g7 < _; omega)) _).alloc _)
      clear DA DB DC DD o5 q5
      go_wp2_with fail
      go_meet
      exact HR.out
    · subst h
      by_cases hA : 1 < m
      · have HR := Lib.hid (DD.out 6 (by have := HB.out; dsimp only at this; unfold pchk; rw [if_pos (by omega), if_neg (by omega)]; by_cases h : p < m - 1; · rw [if_pos ⟨by omega, h⟩]
                                         · rw [if_neg (fun e => h e.2), if_pos ⟨rfl, hA⟩]))
        clear DA DB DC DD
        go_wp2_with fail
        go_meet
        exact HR.out
      have HR := Lib.hid (DD.out 0 (pchk_of (by have := HB.out; dsimp only at this; omega)))
      clear DA DB DC DD
      go_wp2_with fail
      go_meet
      exact HR.out
  case rest =>
    obtain ⟨⟨f', k', p', m', l'⟩, a', c', rfl, hty, hq, hs', fw⟩ := hcut
    dsimp only at hq hs'
    have Q4 := Lib.hid hq
    have S4 := Lib.hid hs'
    have F4 := Lib.hid fw
    have T4 := Lib.hid hty
    clear hq hs' fw hty Q3 F3 S3 G7 HB HTY HS HOK HL
    obtain ⟨C, hC⟩ : ∃ C, C = pchk f' p' m' l'.length := ⟨_, rfl⟩
    have HC := Lib.hid hC
    rw [show (⟨f', k', p', m', l'⟩ : Pc).chk = C from hC.symm]
    clear hC
    obtain ⟨c0, c1, c2, c3, c4⟩ := par_cells Q4.out
    go_wp2_with fail
    refine (pput_any f' k' p' m' _ l' wc S4.out T4.out).mono ?_
    rintro e w5 ⟨ay, ny, cy, rfl, hyc, f5⟩
    rw [← HC.out] at hyc ⊢
    have Q5 := Lib.hid (crow_kept Q4.out f5 (fun h => h))
    have S5 := Lib.hid (S4.out.fr f5 (fun _ _ h => h))
    have F5 := Lib.hid (F4.out.trans f5 (fun _ _ h => h))
    have HYC := Lib.hid hyc
    clear f5 Q4 S4 F4 hyc c0 c1 c2 c3 c4
    dsimp only
    go_upto_region 32 with fail
    have q6 := heap_alloc_new w5 (oTab nilS (.map none))
    have f6 : Fr (fun _ => False) w5 (w5.alloc (oTab nilS (.map none))) := (Fr.refl _ _).alloc _
    have V6 : Hid (TabV (w5.alloc (oTab nilS (.map none))) w5.heap.size (w5.heap.size + 1) ⟨none, []⟩) := Lib.hid (tab_new q6 (Nat.lt_succ_self _) (by rw [World.size_alloc]; exact Nat.le_refl _))
    generalize w5.alloc (oTab nilS (.map none)) = w6 at *
    obtain ⟨b, hb⟩ : ∃ b, b = w5.heap.size := ⟨_, rfl⟩
    rw [← hb] at V6 ⊢
    have Q6 := Lib.hid (crow_kept Q5.out f6 (fun h => h))
    have S6 := Lib.hid (S5.out.fr f6 (fun _ _ h => h))
    have F6 := Lib.hid (F5.out.trans f6 (fun _ _ h => h))
    have G6 : Hid (g7 < b ∧ w.heap.size ≤ b ∧ (l' = [] ∨ ∀ z, (Value.slice a' l'.length c').ownBlock = some z → z ≠ b ∧ z < b + 1)) := Lib.hid (by
      refine ⟨by rw [hb]; exact vt_lt Q5.out, by have := F5.out.size; omega, ?_⟩
      by_cases h : l' = []
      · exact .inl h
      · right
        intro z hz
        rcases S5.out with ⟨h', _⟩ | ⟨g, o, cc, e1, _, hcc⟩
        · exact absurd h' h
        · rw [e1] at hz
          simp [Value.ownBlock] at hz
          have := World.block_lt_of_cell? w5 _ (hcc 0 (List.length_pos_iff.2 h))
          simp at this
          omega)
    clear q6 f6 hb Q5 S5 F5
    obtain ⟨c0, c1, c2, c3, c4⟩ := par_cells Q6.out
    go_wp2_with fail
    refine (tput_any w6 ⟨none, []⟩ ⟨f', k', p', m', l'⟩ a' c' V6.out T4.out S6.out G6.out.2.2 (fun m h => (by cases h))).mono ?_
    rintro e w7 ⟨r, rfl, hV7, f7, hn7, hs7⟩
    obtain ⟨R, hR⟩ : ∃ R, R = putS ⟨none, []⟩ ⟨f', k', p', m', l'⟩ := ⟨_, rfl⟩
    rw [← hR] at hV7 ⊢
    have HR7 : Hid (C ≠ 0 → R = (⟨none, []⟩, none)) := Lib.hid (fun h => by
      rw [hR]; unfold putS
      rw [if_pos (.inl (by show pchk f' p' m' l'.length ≠ 0; rw [← HC.out]; exact h))])
    have V7 := Lib.hid hV7
    have F7 : Hid (Fr (fun _ => False) w w7) := Lib.hid (F6.out.trans f7 (fun i hi e => by have := G6.out; omega))
    have Q7 := Lib.hid (crow_kept Q6.out f7 (fun e => by have := G6.out; omega))
    clear hV7 f7 hn7 hs7 hR c0 c1 c2 c3 c4 Q6 S6 F6 V6
    obtain ⟨c0, c1, c2, c3, c4⟩ := par_cells Q7.out
    dsimp only
    go_upto_region 33 with fail
    obtain ⟨T', O'⟩ := R
    obtain ⟨ob, hob⟩ : ∃ ob, ob = O'.isSome := ⟨_, rfl⟩
    dsimp only at HR7 V7 ⊢
    rw [← hob]
    have HOB : Hid (C ≠ 0 → ob = false ∧ T'.o = none) := Lib.hid (fun h => by
      have := HR7.out h
      cases this
      exact ⟨hob, rfl⟩)
    clear hob HR7
    go_wp2_with fail
    refine (pcheck_any f' k' p' m' a' l'.length c' w7).mono ?_
    rintro e w8 ⟨rfl, f8⟩
    rw [← HC.out]
    have F8 := Lib.hid (F7.out.trans f8 (fun _ _ h => h))
    have V8 := Lib.hid (V7.out.fr0 f8)
    clear f8 F7 V7 Q7 c0 c1 c2 c3 c4
    dsimp only
    by_cases h0 : C = 0
    · have hny : (0 : Int) < (ny : Int) := by have := HYC.out.1 h0; omega
      subst h0
      go_wp2_with fail
      go_ret
      exact ⟨by simp, F8.out⟩
    · have hny : ¬ (0 : Int) < (ny : Int) := by have := mt HYC.out.2 h0; omega
      obtain ⟨rfl, ho⟩ := HOB.out h0
      have hb0 : (C == 0) = false := by simpa using h0
      have HH := Lib.hid (And.intro h0 ho)
      clear h0 ho
      go_wp2_with fail
      refine (tlenV w8 V8.out).mono ?_
      rintro e w9 ⟨rfl, rfl⟩
      rw [HH.out.2]
      dsimp only
      go_wp2_with fail
      go_ret
      exact ⟨by simp, F8.out⟩
end
section
theorem checks_all (s : Sm) (v : Value) {w : World} (hv : SmV w s v) (what : Int) (h0 : 0 ≤ what) (h1 : what ≤ 255) (n : Int) (_ : -9223372036854775808 ≤ n) (_ : n ≤ 9223372036854775807) :
    Calls Try.prog 6 #[v, .int .u8 what, .int .i64 n] w fun e w' => e = .returned (.bool true) ∧ Fr (fun _ => False) w w' := by
  obtain ⟨a, c, rfl, hs, hok⟩ := hv
  exact checks_law s a c what n w hok hs h0 h1
end
end Go.Proofs.Ytjegdbkkojaacaa
