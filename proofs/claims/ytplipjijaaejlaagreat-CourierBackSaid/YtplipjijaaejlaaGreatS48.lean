/-
  CouBack, part 48 of what it rests on: Take3.
-/
import Derived.Test.YtplipjijaaejlaaGreatS47
set_option linter.unusedVariables false
set_option linter.unusedSimpArgs false
set_option maxHeartbeats 64000000
namespace Go.Proofs.YtplipjijaaejlaaGreat
open Go.RowKit
open Go.Lib (hid)
section
attribute [local go_sem] run_store_float
set_option maxRecDepth 100000

section
variable {α : Type} {D : Shown α} {e : TypeId} {size B : Nat} {X : Nat → Prop} {w : World} {pv : Value} {l : List α}
/-- The append of one item, in a walk. -/
theorem wpList_push {P : Program} {ops : Array Oper} {rest : List Oper} {o : Oper} {a : Act} {Q : Exit → Act → World → Prop} (hgd : o.guard = none) (s x : Operand) (t u : TypeId)
    (ho : o.op = .call { callee := .builtin .append, args := #[s, x], argTypes := #[t, u] })
    {z : Value} {bytes : Nat} (ht : P.underlying t = some (.slice e)) (hu : P.underlying u = some (.slice e))
    (hi : (P.info? e).map (fun i => (i.zero, i.size, i.bytes)) = some (some z, size, bytes)) (hzs : z.cells.size = size) (hsz : 0 < size)
    (hs : a.eval s = pv) (h : ItRow D e size B X w pv l) (gg : Nat) (hx : a.eval x = .slice (some ⟨gg, 0, none⟩) 1 1) {news : List Value} {tt : TypeId} {ff : Nat × Nat} (hgg : w.heap[gg]? = some (.cells news.toArray tt ff)) (hn : news.length = size) (h1 : ∀ u ∈ news, u.oneCell' = true)
    (hl : l.length ≤ 100000) (hb : bytes ≤ 1000) (hB : B ≤ w.heap.size) (hX : ∀ k, X k → k < w.heap.size) (y : α) (hy : D.sh (fun k => B ≤ k ∧ ¬ X k ∧ pv.ownBlock ≠ some k) w y news)
    (hK : ∀ v' w', ItRow D e size B X w' v' (l ++ [y]) → Fr (fun k => pv.ownBlock = some k) w w' → (v'.ownBlock = pv.ownBlock ∨ v'.ownBlock = some w.heap.size) → wpList P ops Q rest (a.put o.dst v') w') : wpList P ops Q (o :: rest) a w := by
  obtain ⟨i0, hi0, hz0, hz1, hz2⟩ := info_parts hi
  have hr := h
  obtain ⟨cs, hown, _⟩ := hr
  refine wpList_append_sep (P := P) hgd s x t u ho B e i0 z size bytes ht _ hu (.inr ⟨_, rfl⟩) hi0 hz0 hz1 hz2 hzs hsz pv l.length cs hs hown (.slice (some ⟨gg, 0, none⟩) 1 1) 1 news hx (lenOf_slice _ _ _) (by omega) (first_one 1 size hn hgg) (first_one 1 size hn hgg) h1 (by unfold maxLen; omega) ?_ hB ?_
  · have : (l.length + 1) * bytes ≤ 100001 * 1000 := Nat.mul_le_mul (by omega) hb
    omega
  · intro v' w' ho' hg hv
    exact hK v' w' (h.push hy hn hown ho' hg hv hX) ((Fr.of_grown hg).mono (fun _ _ e => e.symm)) hv
end

theorem each_stop (g : Nat → TS → VT × TS) (s : TS) (j : Nat) (h : (eachN g j s).2.1.2 ≠ 0) (i : Nat) : eachN g (j + i) s = eachN g j s := by
  induction i with
  | zero => rfl
  | succ i ih =>
    rw [show j + (i + 1) = (j + i) + 1 from rfl, eachN, ih, if_pos h]

theorem each_go (g : Nat → TS → VT × TS) (s : TS) (j : Nat) (h : (eachN g j s).2.1.2 = 0) : eachN g (j + 1) s = ((eachN g j s).1 ++ [(g j (eachN g j s).2).1], (g j (eachN g j s).2).2) := by
  rw [eachN, if_neg (by simp [h])]

theorem each_len (g : Nat → TS → VT × TS) (s : TS) (j : Nat) : (eachN g j s).1.length ≤ j := by
  induction j with
  | zero => simp [eachN]
  | succ j ih =>
    rw [eachN]
    split
    · omega
    · simp; omega

/-- The parts lie there. -/
def PartsAt (B : Nat) (w : World) (po : Value) (L : List VT) : Prop := ∃ a cap, po = .slice a L.length cap ∧ VKids (fun k => B ≤ k) w (fun i => L.getD i zeroV) a L.length cap

theorem parts_at {B : Nat} {w : World} {po : Value} {L : List VT} (h : ItRow vShown 39 4 B (fun _ => False) w po L) : PartsAt B w po L := by
  obtain ⟨a, c, rfl⟩ := h.slice
  refine ⟨a, c, rfl, h.vkids _ (fun i x hi => ?_)⟩
  simp [List.getD, hi]

theorem parts_mono {B B' : Nat} {w : World} {po : Value} {L : List VT} (h : PartsAt B w po L) (hB : B' ≤ B) : PartsAt B' w po L := by
  obtain ⟨a, cap, rfl, hk⟩ := h
  refine ⟨a, cap, rfl, ?_⟩
  rcases hk with h | ⟨h1, g, off, hg, rfl, hc⟩
  · exact .inl h
  · refine .inr ⟨h1, g, off, Nat.le_trans hB hg, rfl, fun i hi => ?_⟩
    obtain ⟨x0, x1, x2, x3, c0, c1, c2, c3, hx⟩ := hc i hi
    exact ⟨x0, x1, x2, x3, c0, c1, c2, c3, VShows.mono (fun k _ h => Nat.le_trans hB h) _ _ hx⟩

theorem teach_any (k : Nat) (m : Int) (ns : List Txt) (n : Nat) (of : Nat → KT) (c lv : Nat) (lz : Int) (hlz : lz = lv) (hlv : 1 ≤ lv ∧ lv ≤ 100) (ih : ∀ i, i < c → TakeAt (of (if k = 5 then 0 else i))) (hin : ∀ i, i < c → (if k = 5 then 0 else i) < n) (hc : c ≤ 65536)
    (R0 : Nat → Prop) (tv : Value) (w : World) (fb rb B : Nat) (s : TS) (hsh : Shows R0 w (.mk k m ns n of) tv) (hst : UnSt fb rb B w s) (hB : B ≤ w.heap.size) (hR : ∀ k, R0 k → ¬ TDirt fb rb k) (hcn : Cnt s) :
    Calls Tryz.prog 64 #[.pointer (some ⟨fb, 0, none⟩), tv, .int .i64 c, .int .i64 lz] w fun e w' => ∃ po, e = .returned po ∧ PartsAt w.heap.size w' po (eachN (fun i s' => takeE (of (if k = 5 then 0 else i)) (lv - 1) s') c s).1 ∧
      UnSt fb rb B w' (eachN (fun i s' => takeE (of (if k = 5 then 0 else i)) (lv - 1) s') c s).2 ∧ Fr (TDirt fb rb) w w' := by
  obtain ⟨g, hg⟩ : ∃ g : Nat → TS → VT × TS, g = fun i s' => takeE (of (if k = 5 then 0 else i)) (lv - 1) s' := ⟨_, rfl⟩
  rw [← hg]
  have HGC : Hid (∀ i s, s.1.2 = 0 → Cnt s → Cnt (g i s).2) := Lib.hid (fun i s h h' => by rw [hg]; exact take_cnt _ _ _ h h')
  obtain ⟨tk, tm, ta, tn, tc, ta', tn', tc', rfl⟩ := hsh.four
  obtain ⟨w1, hw1⟩ : ∃ w1, w1 = w.alloc (.cells #[.int .u8 tk, .int .i64 tm, .slice ta tn tc, .slice ta' tn' tc'] 34) := ⟨_, rfl⟩
  have f1 : Fr (fun _ => False) w w1 := by rw [hw1]; exact (Fr.refl _ _).alloc _
  have q1 : w1.heap[w.heap.size]? = some (.cells #[.int .u8 tk, .int .i64 tm, .slice ta tn tc, .slice ta' tn' tc'] 34 (0, 0)) := by rw [hw1]; exact heap_alloc_new _ _
  have z1 : w1.heap.size = w.heap.size + 1 := by rw [hw1]; simp
  have HG := Lib.hid hg
  have HSH := Lib.hid (Shows.fr f1 (fun _ _ h => h) _ _ hsh)
  have HIN := Lib.hid hin
  have HIH := Lib.hid ih
  have HR := Lib.hid hR
  have HST := Lib.hid (hst.fr f1 (fun _ _ h => h))
  have HB1 := Lib.hid (And.intro hB hst.lt)
  have F1 := Lib.hid f1
  have HCN := Lib.hid hcn
  have HLV := Lib.hid (And.intro hlz hlv)
  have HC := Lib.hid hc
  obtain ⟨yz, hyz⟩ : ∃ yz : Int, lz - 1 = yz := ⟨_, rfl⟩
  have hyw : IntKind.i64.wrap yz = yz := by rw [IntKind.wrap_i64]; omega
  have HYZ := Lib.hid hyz
  have HYW := Lib.hid hyw
  clear hsh hin ih hR hst hB f1 hg hcn hlz hlv hc hyz hyw
  go_enter Tryz.func64, Tryz.ntmps64
  go_upto_region 1 with fail
  rw [← hw1]
  clear hw1
  obtain ⟨tb, htb⟩ : ∃ tb, w.heap.size = tb := ⟨_, rfl⟩
  rw [htb] at q1 z1 ⊢
  have H1 := Lib.hid (And.intro q1 (And.intro z1 htb))
  clear q1 z1 htb
  go_wp2_with fail
  go_loopg [9, 10] c (fun G u9 u10 wr => ∃ j : Nat, j ≤ c ∧ G = c - j ∧ u10 = .int .i64 j ∧ Hid (ItRow vShown 39 4 (tb + 1) (fun _ => False) wr u9 (eachN g j s).1) ∧ Hid (UnSt fb rb B wr (eachN g j s).2 ∧ Fr (TDirt fb rb) w1 wr) ∧ Hid (Cnt (eachN g j s).2))
  case atStart => exact ⟨0, Nat.zero_le _, rfl, by go_num, Lib.hid (ItRow.nil _ _ _ _ _ _), Lib.hid ⟨HST.out, Fr.refl _ _⟩, HCN⟩
  case round =>
    obtain ⟨j, hj, rfl, rfl, HROW, HI, HCJ⟩ := hrel
    obtain ⟨p0, p1, zz⟩ := un_cells HI.out.1
    obtain ⟨rv, hrd, hrv, hrB⟩ := HI.out.1.rd
    have HRV := Lib.hid (And.intro hrd (And.intro hrv hrB))
    clear hrd hrv hrB
    obtain ⟨xj, hxj⟩ : ∃ xj, (eachN g j s).2.1.2 = xj := ⟨_, rfl⟩
    have herr := rderr_any rb rv _ _ wr HRV.out.1
    rw [hxj] at herr
    have HXJ := Lib.hid hxj
    clear hxj
    by_cases hlt : j < c
    case neg =>
      obtain rfl : j = c := by omega
      have jc : ¬ (j : Int) < (j : Int) := by omega
      clear hlt herr p0 p1 zz
      go_wp2_with fail
      go_ret
      exact ⟨_, rfl, parts_mono (parts_at HROW.out) (by have := H1.out.2.2; omega), HI.out.1, (F1.out.mono (fun _ _ h => h.elim)).trans HI.out.2 (fun _ _ h => h)⟩
    case pos =>
      have jc : (j : Int) < (c : Int) := by omega
      have HLT := Lib.hid hlt
      clear hlt
      by_cases hx0 : xj = 0
      case neg =>
        have hxe : (xj == 0) = false := by simp; omega
        have HES : Hid (eachN g c s = eachN g j s) := Lib.hid (by
          rw [show c = j + (c - j) by omega]
          exact each_stop g s j (by rw [HXJ.out]; exact hx0) _)
        clear hx0
        go_wp2_with fail
        refine herr.mono ?_
        clear herr
        rintro e1 w2 ⟨rfl, rfl⟩
        go_wp2_with fail
        go_ret
        exact ⟨_, rfl, by rw [HES.out]; exact parts_mono (parts_at HROW.out) (by have := H1.out.2.2; omega), by rw [HES.out]; exact HI.out.1, (F1.out.mono (fun _ _ h => h.elim)).trans HI.out.2 (fun _ _ h => h)⟩
      case pos =>
        subst hx0
        have HOFF : Hid (¬ TDirt fb rb tb) := Lib.hid (fun h => by have := HB1.out; have := H1.out.2.2; rcases h with h | h <;> omega)
        obtain ⟨t0, t1, t2, t3⟩ := cell_of_four (box_kept H1.out.1 HI.out.2 HOFF.out)
        have hpart := part_any R0 k m ns n of _ j wr (Shows.fr HI.out.2 (fun x hx => HR.out x hx) _ _ HSH.out) (HIN.out j HLT.out)
        go_wp2_with fail
        refine herr.mono ?_
        clear herr
        rintro e1 w2 ⟨rfl, rfl⟩
        go_wp2_with fail
        refine hpart.mono ?_
        clear hpart
        rintro e2 wa ⟨v', rfl, hsv, fa⟩
        have htake := HIH.out j HLT.out R0 v' wa fb rb B (eachN g j s).2 (lv - 1) yz (by have := HYZ.out; have := HLV.out; omega) (by have := HLV.out; omega) hsv (HI.out.1.fr fa (fun _ _ h => h)) (by have := fa.size; have := HI.out.2.size; have := HB1.out; have := H1.out.2; omega) HR.out HXJ.out (HCJ.out.2 HXJ.out)
        have hgj : takeE (of (if k = 5 then 0 else j)) (lv - 1) (eachN g j s).2 = g j (eachN g j s).2 := by rw [HG.out]
        rw [hgj] at htake
        have HFA := Lib.hid fa
        have hyz := HYZ.out
        have hyw := HYW.out
        clear hsv fa hgj t0 t1 t2 t3 p0 p1 zz
        go_wp2_with fail
        refine htake.mono ?_
        clear htake
        rintro e3 wb ⟨v2, rfl, hv2, hu2, f2⟩
        obtain ⟨zn, zf, zs, za, zc, zcap, rfl⟩ := hv2.lit
        have HW := Lib.hid (And.intro hv2 (And.intro hu2 f2))
        have f3 : Fr (fun _ => False) wb (wb.alloc (.cells #[.int .i64 zn, .float .f64 zf, .string zs, .slice za zc zcap] 39)) := (Fr.refl _ _).alloc _
        have HF3 := Lib.hid f3
        clear hv2 hu2 f2 f3 hyz hyw
        have HDB : Hid (∀ x, tb + 1 ≤ x → ¬ TDirt fb rb x) := Lib.hid (fun x hx h => by have := HB1.out; have := H1.out.2.2; rcases h with h | h <;> omega)
        go_wp2_with (at_builtin; refine wpList_push (e := 39) (size := 4) (pv := u9) (l := (eachN g j s).1) (B := tb + 1) (X := fun _ => False) (D := vShown) rfl (.tmp 24) (.tmp 32) 37 37 rfl Tryz.underlying37 Tryz.underlying37 Tryz.infoValue rfl (by decide) rfl ?row wb.heap.size rfl (news := [.int .i64 zn, .float .f64 zf, .string zs, .slice za zc zcap]) (tt := 39) (ff := (0, 0)) ?hgg rfl ?one ?len (by omega) ?hB (fun k hk => hk.elim) (g j (eachN g j s).2).1 ?shy ?grow)
        case row => exact ((HROW.out.fr HFA.out (fun _ _ h => h.elim)).fr HW.out.2.2 (fun x hx h => HDB.out x hx h)).fr HF3.out (fun _ _ h => h.elim)
        case hgg => exact heap_alloc_new wb _
        case one => exact vshows_one HW.out.1
        case len => have := each_len g s j; have := HLT.out; have := HC.out; omega
        case hB => have := HF3.out.size; have := HW.out.2.2.size; have := HFA.out.size; have := HI.out.2.size; have := H1.out.2.1; omega
        case shy =>
          exact ⟨_, _, _, _, rfl, VShows.mono (fun x _ hx => ⟨by have := HFA.out.size; have := HI.out.2.size; have := H1.out.2.1; omega, fun h => h, fun h => by have := (HROW.out.own x h).2.1; have := HFA.out.size; omega⟩) _ _ (VShows.fr HF3.out (fun _ _ h => h) _ _ HW.out.1)⟩
        case grow =>
          intro v' w8 hrow f6 hv
          have HEQ : Hid (eachN g (j + 1) s = ((eachN g j s).1 ++ [(g j (eachN g j s).2).1], (g j (eachN g j s).2).2)) := Lib.hid (each_go g s j HXJ.out)
          have HR8 : Hid (ItRow vShown 39 4 (tb + 1) (fun _ => False) w8 v' (eachN g (j + 1) s).1) := Lib.hid (by rw [HEQ.out]; exact hrow)
          have HU8 : Hid (UnSt fb rb B w8 (eachN g (j + 1) s).2 ∧ Fr (TDirt fb rb) w1 w8) := Lib.hid (by
            rw [HEQ.out]
            refine ⟨(HW.out.2.1.fr HF3.out (fun _ _ h => h)).fr f6 (fun x hx h => by have := (HROW.out.own x h).1; have := HB1.out.1; have := H1.out.2.2; omega), ?_⟩
            refine (((HI.out.2.trans HFA.out (fun _ _ h => h.elim)).trans HW.out.2.2 (fun _ _ h => h)).trans HF3.out (fun _ _ h => h.elim)).trans f6 (fun x hx h => ?_)
            have := (HROW.out.own x h).1
            have := H1.out.2.1
            omega)
          have HC8 : Hid (Cnt (eachN g (j + 1) s).2) := Lib.hid (by rw [HEQ.out]; exact HGC.out _ _ HXJ.out HCJ.out)
          clear hrow f6 hv
          have hj1 : (j : Int) + 1 ≤ 65536 := by have := HLT.out; have := HC.out; omega
          have hj2 : 0 ≤ (j : Int) := by omega
          go_wp2
          go_roundg (c - (j + 1))
          case measure => have := HLT.out; omega
          case rel => exact ⟨j + 1, HLT.out, rfl, by go_num, HR8, HU8, HC8⟩
end
end Go.Proofs.YtplipjijaaejlaaGreat
