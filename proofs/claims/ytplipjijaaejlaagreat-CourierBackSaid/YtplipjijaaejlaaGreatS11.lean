/-
  CouBack, part 11 of what it rests on: KindCheck, RegionV.
-/
import Derived.Test.YtplipjijaaejlaaGreatS05
import Derived.Test.YtplipjijaaejlaaGreatS10
import Derived.Test.YtplipjijaaejlaaGreatS08
set_option linter.unusedVariables false
set_option linter.unusedSimpArgs false
set_option maxHeartbeats 64000000
namespace Go.Proofs.YtplipjijaaejlaaGreat
open Go.RowKit
open Go.Lib (hid)
section
theorem validN_any (n : Int) (w : World) : Calls Tryz.prog 79 #[.int .i64 n] w fun e w' => e = .returned (.bool (validN n)) ∧ w = w' := by
  by_cases h0 : 0 ≤ n <;> by_cases h1 : n ≤ 65535 <;>
    (go_enter Tryz.func79, Tryz.ntmps79
     go_wp2
     go_ret
     exact ⟨ret_bool (by simp [validN, h0, h1]), rfl⟩)

theorem cells_row {w : World} {b : Nat} {cs : Array Value} {t : TypeId} (h : w.heap[b]? = some (.cells cs t (0, 0))) (i : Nat) (u : Value) (hu : cs[i]? = some u) : w.cell? ⟨b, i, none⟩ = some u := by
  rw [cell_of_row w b i cs t (0, 0) h]; exact hu

set_option maxRecDepth 100000 in
theorem checkTypes_any (R : Nat → Prop) (t : KTab) (v : Value) (b : Nat) (w : World) (ht : Tabled R w t v) (hR : ∀ k, R k → k < b) (hb : b < w.heap.size) (hN : Nm (fun k => k < b) w b []) :
    Calls Tryz.prog 81 #[v, namer b] w fun e w' => e = .returned (.int .i64 (firstE (aliasE t.types) t.types.length)) ∧ Fr (fun k => b ≤ k) w w' ∧ (firstE (aliasE t.types) t.types.length = 0 → Nm (fun k => k < b) w' b (t.types.map (·.1))) := by
  obtain ⟨tv, fv, pv, rfl, _, hal, hfl, hpl⟩ := ht
  obtain ⟨fa, fc, rfl, _⟩ := hfl.shape
  obtain ⟨pa, pc, rfl, _⟩ := hpl.shape
  have hall : t.types.length ≤ 1000 := hal.1
  have hnl := Lib.hid hal.2.1
  have Hal0 := Lib.hid hal
  obtain ⟨a, c, rfl, hs⟩ := hal.shape
  have Hal := Lib.hid hal
  have Hs := Lib.hid hs
  have HN := Lib.hid hN
  have HR := Lib.hid hR
  clear hal hs hN hR hfl hpl
  obtain ⟨w0, hw0⟩ : ∃ w0, w0 = w.alloc (.cells #[sv t.name, .int .i64 t.number, .int .i64 t.version, .slice a t.types.length c, .slice fa t.faults.length fc, .slice pa t.procs.length pc] 130) := ⟨_, rfl⟩
  have f0 : Hid (Fr (fun _ => False) w w0) := Lib.hid (by rw [hw0]; exact (Fr.refl _ _).alloc _)
  have q2 : Hid (w0.heap[w.heap.size]? = some (.cells #[sv t.name, .int .i64 t.number, .int .i64 t.version, .slice a t.types.length c, .slice fa t.faults.length fc, .slice pa t.procs.length pc] 130 (0, 0))) := Lib.hid (by rw [hw0]; exact heap_alloc_new _ _)
  have s0 : Hid (w0.heap.size = w.heap.size + 1) := Lib.hid (by rw [hw0]; simp)
  have c3 := cells_row q2.out 3 _ rfl
  unfold namer
  unfold sv at *
  go_enter Tryz.func81, Tryz.ntmps81
  go_wp2
  rw [← hw0]
  clear hw0 c3
  go_loopg [5, 6, 7, 8, 12] t.types.length (fun G u5 u6 u7 u8 u12 wr => ∃ j : Nat, j ≤ t.types.length ∧ G = t.types.length - j ∧ u12 = .int .i64 j ∧ Hid (firstE (aliasE t.types) j = 0 ∧ Fr (fun k => b ≤ k) w wr ∧
    wr.heap[w.heap.size]? = some (.cells #[.string ⟨t.name.toArray⟩, .int .i64 t.number, .int .i64 t.version, .slice a t.types.length c, .slice fa t.faults.length fc, .slice pa t.procs.length pc] 130 (0, 0)) ∧
    Nm (fun k => k < b ∨ k = w.heap.size) wr b ((t.types.take j).map (·.1))))
  case atStart => exact ⟨0, Nat.zero_le _, rfl, by go_num, Lib.hid ⟨rfl, f0.out.mono (fun _ _ h => absurd h (fun h => h)), q2.out, (HN.out.guard (Q := fun k => k < b ∨ k = w.heap.size) (fun k hk h => by omega)).fr f0.out (fun _ h => absurd h (fun h => h))⟩⟩
  case round =>
    obtain ⟨j, hj, rfl, rfl, HI⟩ := hrel
    by_cases hlt : j < t.types.length
    · rcases Hs.out with hz | ⟨hcap, g, off, hg, rfl, hcell⟩
      · omega
      obtain ⟨nm, tt, htt⟩ : ∃ nm tt, t.types[j]? = some (nm, tt) := ⟨t.types[j].1, t.types[j].2, by rw [List.getElem?_eq_getElem hlt]⟩
      obtain ⟨x0, x1, x2, x3, y, y0, y1, y2, y3, hx⟩ := hcell j _ htt
      have nb : ∀ k, R k → ¬ b ≤ k := fun k hk h => by have := HR.out k hk; omega
      have y := cell_fr HI.out.2.1 nb hg y
      have y0 := cell_fr HI.out.2.1 nb hg y0
      have y1 := cell_fr HI.out.2.1 nb hg y1
      have y2 := cell_fr HI.out.2.1 nb hg y2
      have y3 := cell_fr HI.out.2.1 nb hg y3
      have NB := Lib.hid nb
      obtain ⟨pk, pm, pa', pn, pc', pa2, pn2, pc2, rfl, rfl, rfl, rfl⟩ := hx.cells
      have HX := Lib.hid hx
      have hgd : t.types.getD j ([], .nil) = (nm, tt) := by rw [List.getD_eq_getElem?_getD, htt]; rfl
      have hnml : nm.length ≤ 1000 := hnl.out _ (List.mem_of_getElem? htt)
      have htk : (t.types.take (j + 1)).map (·.1) = (t.types.take j).map (·.1) ++ [nm] := by
        rw [List.take_add_one, htt]; simp
      have HGD := Lib.hid hgd
      have HTK := Lib.hid htk
      clear hcell nb hx htt hgd htk
      unfold sv at y
      -- the alias in its own box
      obtain ⟨wb, hwb⟩ : ∃ wb, wb = wr.alloc (.cells #[.string ⟨nm.toArray⟩, .int .u8 pk, .int .i64 pm, .slice pa' pn pc', .slice pa2 pn2 pc2] 125) := ⟨_, rfl⟩
      have fb : Fr (fun _ => False) wr wb := by rw [hwb]; exact (Fr.refl _ _).alloc _
      have qb : wb.heap[wr.heap.size]? = some (.cells #[.string ⟨nm.toArray⟩, .int .u8 pk, .int .i64 pm, .slice pa' pn pc', .slice pa2 pn2 pc2] 125 (0, 0)) := by rw [hwb]; exact heap_alloc_new _ _
      have sb : wb.heap.size = wr.heap.size + 1 := by rw [hwb]; simp
      have hwr : w.heap.size + 1 ≤ wr.heap.size := lt_of_block HI.out.2.2.1
      have hNb : Nm (fun k => (k < b ∨ k = w.heap.size) ∨ k = wr.heap.size) wb b ((t.types.take j).map (·.1)) :=
        (HI.out.2.2.2.guard (Q := fun k => (k < b ∨ k = w.heap.size) ∨ k = wr.heap.size) (fun k hk h => by rcases h with h | h; exact h; omega)).fr fb (fun _ h => absurd h (fun h => h))
      have hnx := name_next _ b ((t.types.take j).map (·.1)) nm wb hNb (fun k h => by omega) (by simp; omega) (by unfold maxLen; omega)
      unfold sv at hnx
      rw [hwb] at hnx
      have z0 := cells_row qb 0 _ rfl
      have HB := Lib.hid (And.intro hwb (And.intro fb (And.intro qb sb)))
      clear hwb fb qb sb hNb
      obtain ⟨E, hE⟩ : ∃ E, E = nameE ((t.types.take j).map (·.1)) nm := ⟨_, rfl⟩
      rw [← hE] at hnx
      have HE := Lib.hid hE
      clear hE
      go_wp2_with fail
      refine hnx.mono ?_
      rintro e w2 ⟨rfl, f2, N2⟩
      rw [← HB.out.1] at f2
      have HF2 := Lib.hid (And.intro f2 N2)
      clear f2 N2 hnx
      by_cases he : E = 0
      · subst he
        have N2 := HF2.out.2 (by first | trivial | rfl)
        have qt := box_kept (box_kept HI.out.2.2.1 HB.out.2.1 (fun h => h)) HF2.out.1 (by omega)
        have qa := box_kept HB.out.2.2.1 HF2.out.1 (by omega)
        have fw2 : Fr (fun k => b ≤ k) w w2 := (HI.out.2.1.trans HB.out.2.1 (fun _ _ h => absurd h (fun h => h))).trans HF2.out.1 (fun i hi h => by omega)
        have hsl : ∀ wx : World, Fr (fun _ => False) w2.drew wx → Calls Tryz.prog 90 #[.agg #[.int .u8 pk, .int .i64 pm, .slice pa' pn pc', .slice pa2 pn2 pc2], .slice (some ⟨g, off, none⟩) j c, .int .i64 5] wx fun e w' => e = .returned (.int .i64 (rightE (t.types.take j) tt 5)) ∧ Fr (fun _ => False) wx w' := fun wx fx =>
          have fwx : Fr (fun k => b ≤ k) w wx := ⟨fx.os.trans fw2.os, fx.tape.trans fw2.tape, fx.output.trans fw2.output, Nat.le_trans fw2.size fx.size, fun i hi hs => (fx.block i (Nat.lt_of_lt_of_le hi fw2.size) (fun h => h)).trans (fw2.block i hi hs)⟩
          right_any (t.types.take j) tt R _ _ wx 5 5 rfl (by omega) (Shows.fr fwx (fun k hk => NB.out k hk) _ _ HX.out) ((Aliases.take Hal0.out j (by omega)).fr fwx (fun k hk => NB.out k hk))
        have HSL := Lib.hid hsl
        have HQ := Lib.hid (And.intro qt (And.intro qa (And.intro fw2 N2)))
        obtain ⟨E2, hE2⟩ : ∃ E2, E2 = rightE (t.types.take j) tt 5 := ⟨_, rfl⟩
        have HE2 := Lib.hid hE2
        clear hsl qt qa fw2 N2 z0 hE2 y y0 y1 y2 y3
        have hjc : (j : Int) ≤ (c : Int) := by omega
        have hj0 : (0 : Int) ≤ (j : Int) := by omega
        have ea : aliasE t.types j = E2 := by unfold aliasE; rw [HGD.out]; rw [if_pos HE.out.symm, HE2.out]
        have EA := Lib.hid ea
        clear ea
        go_wp2_with fail
        refine wp_region_told (by kernel_rfl) (fun a b => Fr (fun _ => False) a b) (fun w => Fr.refl _ w) (fun _ _ _ h k => h.trans k (fun _ _ h => h))
          [24, 25, 26, 27, 28, 29, 30, 8] rfl (by decide) (by intro d hd; simp at hd ⊢; omega)
          (fun i v _ => v = [.pointer (some ⟨wr.heap.size, 1, none⟩), .agg #[.int .u8 pk, .int .i64 pm, .slice pa' pn pc', .slice pa2 pn2 pc2], .pointer (some ⟨w.heap.size, 3, none⟩), .slice (some ⟨g, off, none⟩) t.types.length c, .int .i64 j, .slice (some ⟨g, off, none⟩) j c, .int .i64 (E2 : Nat), .int .i64 (E2 : Nat)].getD i undef)
          (fun _ _ _ _ _ h => h) (by kernel_rfl) ?step ?fin
        case step =>
          intro vals
          simp only [frOf, fill, List.setIfInBounds_toArray, List.set_cons_succ, List.set_cons_zero]
          repeat' (first | exact AllOps.nil | refine AllOps.cons ?_ ?_)
          all_goals
            intro wx hle he K hK
            simp only [Act.put, List.setIfInBounds_toArray, List.set_cons_succ, List.set_cons_zero, List.getD_cons_zero, List.getD_cons_succ] at hK
            simp only [List.mem_cons, List.not_mem_nil, or_false, forall_eq_or_imp, forall_eq, Region.binds, forall_const, false_imp_iff, List.getD_cons_zero, List.getD_cons_succ] at he
            try simp only [he] at hK
            have hcall := HSL.out wx hle
            have fx : Fr (fun _ => False) w2 wx := ⟨hle.os, hle.tape, hle.output, hle.size, hle.block⟩
            have c3 := cells_row (box_kept HQ.out.1 fx (fun h => h)) 3 _ rfl
            have d1 := cells_row (box_kept HQ.out.2.1 fx (fun h => h)) 1 _ rfl
            have d2 := cells_row (box_kept HQ.out.2.1 fx (fun h => h)) 2 _ rfl
            have d3 := cells_row (box_kept HQ.out.2.1 fx (fun h => h)) 3 _ rfl
            have d4 := cells_row (box_kept HQ.out.2.1 fx (fun h => h)) 4 _ rfl
            clear hle fx
            try go_simp
            first
              | (go_at_call 90; refine hcall.mono ?_; rintro e1 wa ⟨rfl, fa⟩; rw [← HE2.out]; exact hK _ _ fa rfl)
              | exact hK _ _ (Fr.refl _ _) rfl
        case fin =>
          intro vals w' hle hV
          have h7 : vals 7 = .int .i64 (E2 : Nat) := hV 7 (by decide)
          clear hV
          have fx : Fr (fun _ => False) w2 w' := ⟨hle.os, hle.tape, hle.output, hle.size, hle.block⟩
          have HFX := Lib.hid fx
          clear hle fx
          simp only [frOf, fill, List.setIfInBounds_toArray, List.set_cons_succ, List.set_cons_zero, h7]
          by_cases he2 : E2 = 0
          · subst he2
            go_wp2
            go_roundg (t.types.length - (j + 1))
            case measure => omega
            case rel =>
              refine ⟨j + 1, by omega, rfl, by go_num, Lib.hid ⟨firstE_step _ _ HI.out.1 EA.out, HQ.out.2.2.1.trans HFX.out (fun _ _ h => absurd h (fun h => h)), box_kept HQ.out.1 HFX.out (fun h => h), ?_⟩⟩
              rw [HTK.out]
              exact (HQ.out.2.2.2.guard (Q := fun k => k < b ∨ k = w.heap.size) (fun k _ h => .inl h)).fr HFX.out (fun _ h => absurd h (fun h => h))
          · have he' : ¬ (E2 : Int) = 0 := by omega
            go_wp2
            go_ret
            have es : firstE (aliasE t.types) t.types.length = E2 := by rw [firstE_stop _ _ j hlt HI.out.1 (by rw [EA.out]; exact he2), EA.out]
            rw [es]
            exact ⟨rfl, HQ.out.2.2.1.trans HFX.out (fun _ _ h => absurd h (fun h => h)), fun h => absurd h he2⟩
      · have he' : ¬ (E : Int) = 0 := by omega
        go_wp2
        go_ret
        have ea : aliasE t.types j = E := by unfold aliasE; rw [HGD.out]; rw [if_neg (by rw [← HE.out]; exact he), HE.out]
        have es : firstE (aliasE t.types) t.types.length = E := by rw [firstE_stop _ _ j hlt HI.out.1 (by rw [ea]; exact he), ea]
        rw [es]
        refine ⟨rfl, (HI.out.2.1.trans HB.out.2.1 (fun _ _ h => absurd h (fun h => h))).trans HF2.out.1 (fun i hi h => by omega), fun h => absurd h he⟩
    · obtain rfl : j = t.types.length := by omega
      go_wp2
      go_ret
      rw [HI.out.1]
      refine ⟨rfl, HI.out.2.1, fun _ => ?_⟩
      have := HI.out.2.2.2
      rw [List.take_length] at this
      exact this.guard (fun k _ h => .inl h)
end
section
section
variable {P : Program} {ops : Array Oper} {Q : Exit → Act → World → Prop}

/-- What the walk keeps: the frame is 'fr vals', the world is a later one, and of each operation that was carried out its predicate holds. -/
structure RelInvV (ops : Array Oper) (Le : World → World → Prop) (fr : (Nat → Value) → Act) (U : Nat → Value → World → Prop) (V : Nat → Value → World → Prop) (w0 : World) (listed : Array Bool) (vals : Nat → Value) (w : World) : Prop where
  le : Le w0 w
  all : ∀ i, i < ops.size → listed.getD i true = true → V i (vals i) w
  rest : ∀ i, i < ops.size → listed.getD i true = false → U i (vals i) w
  closed : ∀ i o, ops[i]? = some o → listed.getD i true = true → ∀ e ∈ o.after, Region.binds .any e = true → listed.getD e.on true = true

def RelStepV (P : Program) (ops : Array Oper) (Q : Exit → Act → World → Prop) (Le : World → World → Prop) (fr : (Nat → Value) → Act) (U : Nat → Value → World → Prop) (V : Nat → Value → World → Prop) (w0 : World) (i : Nat) (o : Oper) : Prop :=
  ∀ (vals : Nat → Value) (w : World), Le w0 w → (∀ e ∈ o.after.toList, Region.binds .any e = true → V e.on (vals e.on) w) →
    U i (vals i) w → (∀ j, waits ops j i = true → U j (vals j) w) →
    ∀ K : Act → World → Prop, (∀ v w', Le w w' → V i v w' → (∀ j u, j ≠ i → U j u w → U j u w') → (∀ j u, j ≠ i → waits ops j i = false → V j u w → V j u w') → K ((fr vals).put o.dst v) w') →
    if Region.wanted o (yielded ops (fr vals).tmps) = true then o.wp P (fr vals) w K Q else K ((fr vals).put o.dst undef) w

theorem wpAny_relV {Le : World → World → Prop} (htrans : ∀ a b c, Le a b → Le b c → Le a c) {fr : (Nat → Value) → Act}
    (hput : ∀ i o, ops[i]? = some o → ∀ vals v, (fr vals).put o.dst v = fr (fun j => if j = i then v else vals j))
    {U : Nat → Value → World → Prop} {V : Nat → Value → World → Prop} {w0 : World} (hdown : edgesDown ops = true)
    (step : ∀ i o, ops[i]? = some o → RelStepV P ops Q Le fr U V w0 i o)
    (fin : ∀ vals w, Le w0 w → (∀ i, i < ops.size → V i (vals i) w) → Q .normal (fr vals) w) :
    ∀ (fuel : Nat) (listed : Array Bool) (vals : Nat → Value) (w : World), listed.size = ops.size → (listed.toList.filter (! ·)).length = fuel → RelInvV ops Le fr U V w0 listed vals w → wpAny P .any ops Q fuel listed (fr vals) w := by
  have done : ∀ (listed : Array Bool) (vals : Nat → Value) (w : World), listed.size = ops.size → RelInvV ops Le fr U V w0 listed vals w → Region.ready .any ops listed = [] → Q .normal (fr vals) w := by
    intro listed vals w hs hI hr
    refine fin vals w hI.le ?_
    have hall : ∀ n i, i < n → i < ops.size → listed.getD i true = true := by
      intro n
      induction n with
      | zero => intro i hi; omega
      | succ n ih =>
        intro i hi hio
        by_cases h : listed.getD i true = true
        · exact h
        · exfalso
          have hno : i ∉ Region.ready .any ops listed := by rw [hr]; exact List.not_mem_nil
          refine hno ?_
          unfold Region.ready
          rw [List.mem_filter]
          refine ⟨List.mem_range.2 hio, ?_⟩
          have ho : ops[i]? = some ops[i] := Array.getElem?_eq_getElem hio
          simp only [Bool.and_eq_true, ho, Option.map_some, Option.getD_some]
          refine ⟨by simpa using h, ?_⟩
          rw [Array.all_eq_true']
          intro e he
          by_cases hb : Region.binds .any e = true
          · have hlt := edgesDown_spec hdown ho he hb
            have h1 := ih e.on (by omega) (by omega)
            have h2 : e.on < listed.size := by omega
            rw [Array.getD_eq_getD_getElem?, Array.getElem?_eq_getElem h2, Option.getD_some] at h1
            simp [h2, h1]
          · simp [hb]
    intro i hi
    exact hI.all i hi (hall (i + 1) i (by omega) hi)
  intro fuel
  induction fuel with
  | zero =>
    intro listed vals w hs hf hI
    have hr : Region.ready .any ops listed = [] := by
      unfold Region.ready
      rw [List.filter_eq_nil_iff]
      intro i hi
      have hio := List.mem_range.1 hi
      have h0 : listed.toList.filter (! ·) = [] := List.eq_nil_of_length_eq_zero hf
      rw [List.filter_eq_nil_iff] at h0
      have hl : i < listed.size := by omega
      have h1 := h0 listed[i] (by simp)
      simp at h1
      simp [Array.getD, hl, h1]
    exact ⟨hr, done listed vals w hs hI hr⟩
  | succ fuel ih =>
    intro listed vals w hs hf hI
    refine ⟨fun hr => done listed vals w hs hI hr, ?_⟩
    intro i hi
    unfold Region.ready at hi
    rw [List.mem_filter] at hi
    obtain ⟨hio, hi2⟩ := hi
    have hio := List.mem_range.1 hio
    have ho : ops[i]? = some ops[i] := Array.getElem?_eq_getElem hio
    simp only [Bool.and_eq_true, ho, Option.map_some, Option.getD_some] at hi2
    obtain ⟨hn, ha⟩ := hi2
    have hil : i < listed.size := by omega
    have hnl : listed[i] = false := by simpa [Array.getD, hil] using hn
    have hcount : ((listed.setIfInBounds i true).toList.filter (! ·)).length = fuel := by
      have e : (listed.setIfInBounds i true).toList = listed.toList.set i true := by simp
      rw [e]
      have hd : listed.toList = listed.toList.take i ++ listed[i] :: listed.toList.drop (i + 1) := by
        have hl' : i < listed.toList.length := by simpa using hil
        have := (List.take_append_drop i listed.toList).symm
        rw [List.drop_eq_getElem_cons hl'] at this
        simpa using this
      have hset : listed.toList.set i true = listed.toList.take i ++ true :: listed.toList.drop (i + 1) := by
        rw [List.set_eq_take_append_cons_drop, if_pos (by simpa using hil)]
      rw [hset]
      rw [hd, hnl] at hf
      simp at hf ⊢
      omega
    have hnd : ∀ e ∈ ops[i].after, Region.binds .any e = true → listed.getD e.on true = true := by
      intro e he hb
      rw [Array.all_eq_true'] at ha
      have h1 := ha e he
      simp [hb] at h1
      have hlt := edgesDown_spec hdown ho he hb
      have h2 : e.on < listed.size := by omega
      simpa [Array.getD, h2] using h1
    have hnext : ∀ v w', Le w w' → V i v w' → (∀ j u, j ≠ i → U j u w → U j u w') → (∀ j u, j ≠ i → waits ops j i = false → V j u w → V j u w') → wpAny P .any ops Q fuel (listed.setIfInBounds i true) ((fr vals).put ops[i].dst v) w' := by
      intro v w' hle hv hu hpres
      rw [hput i _ ho]
      refine ih _ _ _ (by simpa using hs) hcount ⟨htrans _ _ _ hI.le hle, ?_, ?_, ?_⟩
      · intro j hj hlj
        rw [getD_set _ _ _ hil] at hlj
        by_cases hji : j = i
        · subst hji; simpa using hv
        · rw [if_neg hji] at hlj
          simp only [if_neg hji]
          refine hpres j _ hji ?_ (hI.all j hj hlj)
          cases hw : waits ops j i with
          | false => rfl
          | true =>
            exfalso
            unfold waits at hw
            cases hjo : ops[j]? with
            | none => rw [hjo] at hw; cases hw
            | some o =>
              rw [hjo] at hw
              simp only [Array.any_eq_true', Bool.and_eq_true, decide_eq_true_eq] at hw
              obtain ⟨e, he, hb, hei⟩ := hw
              have := hI.closed j o hjo hlj e he hb
              rw [hei, Array.getD_eq_getD_getElem?, Array.getElem?_eq_getElem hil, hnl] at this
              cases this
      · intro j hj hlj
        rw [getD_set _ _ _ hil] at hlj
        by_cases hji : j = i
        · rw [if_pos hji] at hlj; cases hlj
        · rw [if_neg hji] at hlj
          simp only [if_neg hji]
          exact hu j _ hji (hI.rest j hj hlj)
      · intro j o hjo hlj e he hb
        rw [getD_set _ _ _ hil] at hlj ⊢
        by_cases hei : e.on = i
        · rw [if_pos hei]
        · rw [if_neg hei]
          by_cases hji : j = i
          · subst hji
            rw [ho] at hjo
            cases hjo
            exact hnd e he hb
          · rw [if_neg hji] at hlj
            exact hI.closed j o hjo hlj e he hb
    have hst := step i _ ho vals w hI.le (by
      intro e he hb
      have hlt := edgesDown_spec hdown ho (by simpa using he) hb
      exact hI.all e.on (by omega) (hnd e (by simpa using he) hb)) (by
      refine hI.rest i hio ?_
      rw [Array.getD_eq_getD_getElem?, Array.getElem?_eq_getElem hil, hnl]; rfl) (by
      intro j hw
      unfold waits at hw
      cases hjo : ops[j]? with
      | none => rw [hjo] at hw; cases hw
      | some o =>
        rw [hjo] at hw
        simp only [Array.any_eq_true', Bool.and_eq_true, decide_eq_true_eq] at hw
        obtain ⟨e, he, hb, hei⟩ := hw
        have hjs : j < ops.size := (Array.getElem?_eq_some_iff.1 hjo).1
        cases hlj : listed.getD j true with
        | false => exact hI.rest j hjs hlj
        | true =>
          have := hI.closed j o hjo hlj e he hb
          rw [hei, Array.getD_eq_getD_getElem?, Array.getElem?_eq_getElem hil, hnl] at this
          cases this) _ hnext
    unfold wpOp
    simp only [ho]
    split
    · rename_i hw
      rw [if_pos hw] at hst
      exact .inl hst
    · rename_i hw
      rw [if_neg hw] at hst
      exact hst

/-- THE REGION: whatever order is drawn. -/
theorem wp_region_relV {id : Nat} {a : Act} {w : World} (hm : P.follows .mixedOrders = true) (Le : World → World → Prop) (hrefl : ∀ w, Le w w) (htrans : ∀ a b c, Le a b → Le b c → Le a c)
    (fr : (Nat → Value) → Act) (vals : Nat → Value) (ha : a = fr vals)
    (hput : ∀ i o, ops[i]? = some o → ∀ vals v, (fr vals).put o.dst v = fr (fun j => if j = i then v else vals j))
    (U : Nat → Value → World → Prop) (V : Nat → Value → World → Prop) (hdown : edgesDown ops = true) (hU : ∀ i, i < ops.size → U i (vals i) w.drew)
    (step : ∀ i o, ops[i]? = some o → RelStepV P ops Q Le fr U V w.drew i o)
    (fin : ∀ vals w', Le w.drew w' → (∀ i, i < ops.size → V i (vals i) w') → Q .normal (fr vals) w') : (Code.region id ops true).wp P Q a w := by
  refine wp_region_any hm ?_
  subst ha
  have hfalse : ∀ i, i < ops.size → ¬ (Array.replicate ops.size false).getD i true = true := by
    intro i hi h
    simp [Array.getD, hi] at h
  refine wpAny_relV (U := U) htrans hput hdown step fin _ _ vals _ (by simp) ?_ ⟨hrefl _, ?_, ?_, ?_⟩
  · simp
  · intro i hi hl
    exact absurd hl (hfalse i hi)
  · intro i hi _
    exact hU i hi
  · intro i o ho hl
    exact absurd hl (hfalse i (Array.getElem?_eq_some_iff.1 ho).1)

/-- One operation, from a frame: what stands behind it is a variable. -/
def RelOpV (P : Program) (ops : Array Oper) (Q : Exit → Act → World → Prop) (Le : World → World → Prop) (U : Nat → Value → World → Prop) (V : Nat → Value → World → Prop) (w0 : World) (a : Act) (vals : Nat → Value) (i : Nat) (o : Oper) : Prop :=
  ∀ (w : World), Le w0 w → (∀ e ∈ o.after.toList, Region.binds .any e = true → V e.on (vals e.on) w) → U i (vals i) w → (∀ j, waits ops j i = true → U j (vals j) w) →
    ∀ K : Act → World → Prop, (∀ v w', Le w w' → V i v w' → (∀ j u, j ≠ i → U j u w → U j u w') → (∀ j u, j ≠ i → waits ops j i = false → V j u w → V j u w') → K (a.put o.dst v) w') →
    if Region.wanted o (yielded ops a.tmps) = true then o.wp P a w K Q else K (a.put o.dst undef) w

/-- THE REGION AS THE WALK WANTS IT: the operations written out, their slots 'ds'; what holds ahead of each ('U'), what each leaves ('V'); each operation, from whatever values the earlier ones left. -/
theorem wp_region_toldV {id : Nat} {l : List Oper} {a : Act} {w : World} (hm : P.follows .mixedOrders = true) (Le : World → World → Prop) (hrefl : ∀ w, Le w w) (htrans : ∀ a b c, Le a b → Le b c → Le a c)
    (ds : List (Option Nat)) (hds : l.map (·.dst) = ds) (hnd : noTwice ds = true) (hlt : ∀ d, some d ∈ ds → d < a.tmps.size)
    (U : Nat → Value → World → Prop) (V : Nat → Value → World → Prop) (hdown : edgesDown l.toArray = true) (hU : ∀ i, i < l.length → U i (((ds[i]?.bind fun x => x).bind (a.tmps[·]?)).getD undef) w.drew)
    (step : ∀ vals : Nat → Value, AllOps (RelOpV P l.toArray Q Le U V w.drew (frOfU a ds vals) vals) l 0)
    (fin : ∀ vals w', Le w.drew w' → (∀ i, i < l.length → V i (vals i) w') → Q .normal (frOfU a ds vals) w') : (Code.region id l.toArray true).wp P Q a w := by
  have hdst : ∀ (i : Nat) (o : Oper), l[i]? = some o → ds[i]? = some o.dst := by
    intro i o ho
    rw [← hds]
    simp [ho]
  refine wp_region_relV hm Le hrefl htrans (frOfU a ds) (fun j => ((ds[j]?.bind fun x => x).bind (a.tmps[·]?)).getD undef) ?_ ?_ U V hdown (by simpa using hU) ?_ (by simpa using fin)
  · unfold frOfU
    have : fillU (fun j => ((ds[j]?.bind fun x => x).bind (a.tmps[·]?)).getD undef) ds 0 a.tmps = a.tmps := by
      apply Array.ext_getElem?
      intro x
      by_cases hx : some x ∈ ds
      · obtain ⟨j, hj, hjx⟩ := List.getElem_of_mem hx
        have hd : ds[j]? = some (some x) := by rw [List.getElem?_eq_getElem hj, hjx]
        rw [fillU_at _ ds 0 a.tmps hnd hlt j _ hd, Nat.zero_add, hd]
        have hb := hlt x hx
        simp [Array.getElem?_eq_getElem hb]
      · exact fillU_other _ _ _ _ _ hx
    rw [this]
  · intro i o ho vals v
    have h1 := hdst i o (by simpa using ho)
    unfold frOfU Act.put
    cases h2 : o.dst with
    | none =>
      rw [h2] at h1
      simp only
      congr 1
      apply Array.ext_getElem?
      intro x
      by_cases hx : some x ∈ ds
      · obtain ⟨j, hj, hjx⟩ := List.getElem_of_mem hx
        have hd : ds[j]? = some (some x) := by rw [List.getElem?_eq_getElem hj, hjx]
        rw [fillU_at _ ds 0 a.tmps hnd hlt j _ hd, fillU_at _ ds 0 a.tmps hnd hlt j _ hd, Nat.zero_add]
        have hne : j ≠ i := by
          intro e
          subst e
          rw [h1] at hd
          cases hd
        rw [if_neg hne]
      · rw [fillU_other _ _ _ _ _ hx, fillU_other _ _ _ _ _ hx]
    | some d =>
      rw [h2] at h1
      simp only
      congr 1
      apply Array.ext_getElem?
      intro x
      have hd : d < a.tmps.size := hlt d (List.mem_of_getElem? h1)
      rw [Array.getElem?_setIfInBounds]
      by_cases hx : some x ∈ ds
      · obtain ⟨j, hj, hjx⟩ := List.getElem_of_mem hx
        have hdj : ds[j]? = some (some x) := by rw [List.getElem?_eq_getElem hj, hjx]
        rw [fillU_at _ ds 0 a.tmps hnd hlt j _ hdj, fillU_at _ ds 0 a.tmps hnd hlt j _ hdj, Nat.zero_add]
        by_cases e : j = i
        · subst e
          rw [h1] at hdj
          simp only [Option.some.injEq] at hdj
          rw [if_pos hdj, if_pos (by rw [fillU_size]; exact hdj ▸ hd), if_pos rfl]
        · have hne : d ≠ x := by
            intro e2
            subst e2
            exact e (noTwice_inj hnd hdj h1)
          rw [if_neg hne, if_neg e]
      · have hne : d ≠ x := fun e => hx (e ▸ List.mem_of_getElem? h1)
        rw [if_neg hne, fillU_other _ _ _ _ _ hx, fillU_other _ _ _ _ _ hx]
  · intro i o ho vals w' hle he hu hw K hK
    have := (step vals).get i o (by simpa using ho)
    rw [Nat.zero_add] at this
    exact this w' hle he hu hw K hK

end
end
end Go.Proofs.YtplipjijaaejlaaGreat
