/-
  The law PostOrder, walked.
-/
import Derived.Test.YtojfabhbkdddpaaPoArg
import Derived.Deep.Cut
import Derived.Deep.CutRange
import Derived.Deep.CutBlock
import Derived.Deep.LoopGhost
namespace Go.Proofs.Ytojfabhbkdddpaa
open Go.RowKit
set_option maxRecDepth 100000
set_option linter.unusedSimpArgs false
set_option linter.unusedVariables false

def sv (s : List UInt8) : Value := .string ⟨s.toArray⟩
theorem sv_one (s : List UInt8) : (sv s).oneCell' = true := rfl
def StrOwn (w : World) (B : Nat) (v : Value) (W : List (List UInt8)) : Prop := w.ownsRow B 9 1 v W.length (W.map sv)

theorem Try.infoStr : (Try.prog.info? 9).map (fun i => (i.zero, i.size, i.bytes)) = some (some (.string ⟨#[]⟩), 1, 16) := by kernel_rfl

abbrev oStr (s : List UInt8) : Obj := Obj.cells #[sv s] 9 (0, 0)

theorem first_str {P : Program} {w : World} {g : Nat} {s : List UInt8} (h : w.heap[g]? = some (oStr s)) (c : Nat) : (Builtin.firstCells 1 1 (.slice (some ⟨g, 0, none⟩) 1 c)).run P w = .ok [sv s].toArray w := by
  refine run_firstCells_some (P := P) w 1 1 ⟨g, 0, none⟩ 1 c [sv s] rfl (by
    intro j u hj
    have hplain : (⟨g, 0, none⟩ : Addr).add j = ⟨g, j, none⟩ := by unfold Addr.add; split <;> simp_all
    rw [hplain, cell_of_row w g j _ _ _ h]
    simpa using hj)

/-- Append of one text onto a row of texts that is owned alone. -/
theorem wpList_append_str {w : World} {ops : Array Oper} {rest : List Oper} {o : Oper} {a : Act} {Q : Exit → Act → World → Prop} (hgd : o.guard = none) (s x : Operand)
    (ho : o.op = .call { callee := .builtin .append, args := #[s, x], argTypes := #[46, 46] })
    (B : Nat) (v : Value) (acc : List (List UInt8)) (hs : a.eval s = v) (hown : StrOwn w B v acc) (g c : Nat) (t : List UInt8) (hx : a.eval x = .slice (some ⟨g, 0, none⟩) 1 c)
    (hg : w.heap[g]? = some (oStr t)) (hl : acc.length ≤ 100000) (hB : B ≤ w.heap.size)
    (h : ∀ v' w', StrOwn w' B v' (acc ++ [t]) → w.grownBy w' v.ownBlock → (v'.ownBlock = v.ownBlock ∨ v'.ownBlock = some w.heap.size) → wpList Try.prog ops Q rest (a.put o.dst v') w') : wpList Try.prog ops Q (o :: rest) a w := by
  obtain ⟨i0, hi, hz0, hz1, hz2⟩ := info_parts Try.infoStr
  refine wpList_append_sep (P := Try.prog) hgd s x 46 46 ho B 9 i0 _ 1 16 Try.underlying46 _ Try.underlying46 (.inr ⟨_, rfl⟩) hi hz0 hz1 hz2 rfl (by decide)
    v acc.length _ hs hown _ 1 [sv t] hx (fun w => lenOf_slice _ _ _ _) rfl (first_str hg c) (first_str (w := w.drew) hg c) (fun u hu => by simp at hu; subst hu; rfl) (by unfold maxLen; omega) (by omega) hB ?_
  intro v' w' k1 k2 k3
  refine h v' w' ?_ k2 k3
  unfold StrOwn
  rw [List.length_append, List.map_append]
  exact k1

theorem str_at {w : World} {B : Nat} {v : Value} {W : List (List UInt8)} (h : StrOwn w B v W) (i : Nat) (hi : i < W.length) : ∃ g cap, v = .slice (some ⟨g, 0, none⟩) W.length cap ∧ w.cell? ⟨g, i, none⟩ = some (sv W[i]) := by
  have hr : w.ownsRow B 9 1 v W.length (W.map sv) := h
  have hcl := fun g (e : v.ownBlock = some g) => World.ownsRow.cells (h := hr) (g := g) e
  rcases hr.2 with ⟨_, hz⟩ | ⟨g, cap, cur, rfl, hbb, hgg, hle, _⟩
  · omega
  · refine ⟨g, cap, rfl, ?_⟩
    have h1 := hcl g rfl i (sv W[i]) (by simp [hi])
    have hplain : (⟨g, 0, none⟩ : Addr).add i = ⟨g, i, none⟩ := by unfold Addr.add; split <;> simp_all
    rw [hplain] at h1
    exact h1

theorem sees_str {w : World} {a : Option Addr} {c : Nat} {l : List UInt8} (h : Sees w (.slice a l.length c) l) : (convert 30 9 (.slice a l.length c)).run Try.prog w = .ok (sv l) w := h.string _ _ _ Try.underlying30 Try.underlying5 Try.underlying9

/-- What is put behind the texts that are wanted. -/
theorem PW.grown {w0 w w' : World} {b : Nat} {R : List PF} {v v' : Value} (h : PW w0 w b R (fun k => v.ownBlock = some k)) (g : w.grownBy w' v.ownBlock) (e : v'.ownBlock = v.ownBlock ∨ v'.ownBlock = some w.heap.size) (hlt : ∀ k, v'.ownBlock = some k → k < w'.heap.size) : PW w0 w' b R (fun k => v'.ownBlock = some k) :=
  h.other (Fr.of_grown g) (fun k _ hk => hk.symm) (fun k hk => by
    rcases e with e | e
    · exact .inl (e ▸ hk)
    · right
      have := hlt k hk
      rw [e] at hk
      simp at hk
      omega)

set_option maxHeartbeats 16000000 in
theorem order_any (v vc : Value) (ls : List BL) (lc : List UInt8) (w : World) (hv : LLV w ls v) (hs : Sees w vc lc) :
    Calls Try.prog 5 #[v, vc] w fun z w' => z = .returned (.bool true) ∧ Fr (fun _ => False) w w' := by
  obtain ⟨a, c, rfl, hn⟩ := hs.shape
  clear hn
  obtain ⟨va, cv, rfl, hls⟩ : ∃ a c, v = .slice a ls.length c ∧ ∀ j x, ls[j]? = some x → SeesO w x.sl x.l ∧ ∃ g off, a = some ⟨g, off, none⟩ ∧ w.cell? ⟨g, off + j, none⟩ = some x.sl := by
    rcases hv with ⟨rfl, a, c, rfl⟩ | ⟨g, off, cap, rfl, hle, h⟩
    · exact ⟨a, c, rfl, fun j x hj => by simp at hj⟩
    · exact ⟨_, _, rfl, fun j x hj => ⟨(h j x hj).1, g, off, rfl, (h j x hj).2⟩⟩
  have HA := Lib.hid (And.intro hls hs)
  clear hls hs hv
  go_enter Try.func5, Try.ntmps5
  go_wp2_with fail
  refine (awake_any _).mono ?_
  rintro z w1 ⟨rfl, f1⟩
  by_cases hl : 50 < ls.length
  case pos =>
    have hg : (50 : Int) < (ls.length : Int) := by omega
    have F1 := Lib.hid f1; clear f1
    go_wp2_with fail
    go_ret
    exact ⟨rfl, F1.out⟩
  by_cases hl1 : 50 < lc.length
  case pos =>
    have hg : ¬ (50 : Int) < (ls.length : Int) := by omega
    have hg1 : (50 : Int) < (lc.length : Int) := by omega
    have F1 := Lib.hid f1; clear f1
    go_wp2_with fail
    go_ret
    exact ⟨rfl, F1.out⟩
  have hg : ¬ (50 : Int) < (ls.length : Int) := by omega
  have hg1 : ¬ (50 : Int) < (lc.length : Int) := by omega
  have hp := PW.new f1
  have H1 := Lib.hid hp
  clear hp f1
  go_wp2_with fail
  clear hg hg1
  generalize w1.alloc (oPo nilS) = w2 at *
  generalize w1.heap.size = b at *
  go_loopg [6, 29] ls.length (fun g u6 u29 wr => ∃ (k : Nat) (R : List PF), k ≤ ls.length ∧ g = ls.length - k ∧ u29 = .int .i64 k ∧ R.length = k ∧ Hid (∀ (j : Nat) (x : BL), j < k → ls[j]? = some x → R[j]? = some ((j : Int), x.l, false)) ∧ PW w wr b R (fun x => u6.ownBlock = some x) ∧ StrOwn wr w.heap.size u6 (R.map (fun x => x.2.1)))
  case atStart => exact ⟨0, [], by omega, rfl, rfl, rfl, Lib.hid (fun j x h => by omega), H1.out.less (fun k hk => by cases hk), World.ownsRow_nil _ _ _ _⟩
  case round =>
    clear H1
    obtain ⟨k, R, hk, rfl, rfl, hRl, HRJ, hp, hrow⟩ := hrel
    by_cases hlt : k < ls.length
    case pos =>
      obtain ⟨x, hx⟩ : ∃ x, ls[k]? = some x := ⟨_, List.getElem?_eq_getElem hlt⟩
      obtain ⟨hso, ga, oa, rfl, hcell⟩ := HA.out.1 k x hx
      have hcl : wr.cell? ⟨ga, oa + k, none⟩ = some x.sl := by rw [hp.fr.cell (World.block_lt_of_cell? w _ hcell) (fun h => h)]; exact hcell
      have HX := Lib.hid (And.intro hx hso)
      clear hx hso hcell
      obtain ⟨xl, xa, xc⟩ := x
      simp only [BL.sl] at *
      have HP := Lib.hid hp
      have HRW := Lib.hid hrow
      clear hp hrow
      by_cases h50 : 50 < xl.length
      case pos =>
        have hg : (50 : Int) < (xl.length : Int) := by omega
        go_wp2_with fail
        go_ret
        exact ⟨rfl, HP.out.fr⟩
      have hg : ¬ (50 : Int) < (xl.length : Int) := by omega
      have HSD := Lib.hid (send_pw HP.out k xl (.slice xa xl.length xc) (HX.out.2.1.fr HP.out.fr (fun _ _ h => h)) (by omega))
      go_wp2_with fail
      refine HSD.out.mono ?_
      clear HSD
      rintro z w3 ⟨rfl, hp3, f3⟩
      have hsr : sendP R ((k : Int), xl, false) = R ++ [((k : Int), xl, false)] := by unfold sendP; rw [if_pos (by omega)]
      rw [hsr] at hp3
      have hrow3 : StrOwn w3 w.heap.size u6 (R.map (fun x => x.2.1)) := ownsRow_fr HRW.out f3 (fun k hk h => h.2 hk)
      have t1 := sees_str (HX.out.2.1.fr hp3.fr (fun _ _ h => h))
      obtain ⟨S, hS⟩ : ∃ S : ByteArray, S = ⟨xl.toArray⟩ := ⟨_, rfl⟩
      unfold sv at t1
      rw [← hS] at t1
      have HS := Lib.hid hS
      have H3 := Lib.hid (And.intro hp3 hrow3)
      clear hp3 hrow3 f3 HP HRW hsr hS
      go_wp2_with (at_builtin; refine wpList_append_str rfl (.tmp 41) (.tmp 44) rfl w.heap.size u6 (R.map (fun x => x.2.1)) rfl ?own _ 1 xl rfl ?row ?len ?base ?grow)
      case own => exact ownsRow_fr H3.out.2 ((Fr.refl (fun _ => False) w3).alloc (.cells #[.string S] 9)) (fun _ _ h => h)
      case row => rw [HS.out]; exact heap_alloc_new w3 _
      case len => rw [List.length_map]; omega
      case base => have := H3.out.1.fr.size; simp; omega
      case grow =>
        intro v' w4 k1 k2 k3
        have hlt4 := fun k hk => (World.ownsRow.lt k1 k hk).2
        obtain ⟨va', vc', hv'⟩ := slice_of_own k1
        have H4 := Lib.hid (And.intro (PW.grown (H3.out.1.fr0 ((Fr.refl (fun _ => False) w3).alloc (.cells #[.string S] 9))) k2 (by rw [World.size_alloc]; exact k3) hlt4) k1)
        clear k1 k2 k3 hlt4 H3 t1
        go_wp2_with fail
        go_roundg (ls.length - (k + 1))
        case measure => omega
        case rel =>
          refine ⟨k + 1, R ++ [((k : Int), xl, false)], by omega, rfl, by simp, by simp [hRl], Lib.hid (fun j x hj he => ?_), H4.out.1, ?_⟩
          · by_cases hjk : j = k
            · subst hjk
              rw [HX.out.1] at he
              cases he
              rw [List.getElem?_append_right (by omega), hRl]
              simp
            · rw [List.getElem?_append_left (by omega)]
              exact HRJ.out j x (by omega) he
          · have := H4.out.2
            rw [List.map_append]
            exact this
    case neg =>
      obtain rfl : ls.length = k := by omega
      have HFL : Hid (∀ y ∈ R, y.2.2 = false) := Lib.hid (fun y hy => by
        obtain ⟨j, hj, e⟩ := List.getElem_of_mem hy
        obtain ⟨x, hx⟩ : ∃ x, ls[j]? = some x := ⟨_, List.getElem?_eq_getElem (by omega)⟩
        have := HRJ.out j x (by omega) hx
        rw [List.getElem?_eq_getElem hj, e] at this
        cases this
        rfl)
      have HRK : Hid (∀ (j : Nat) (x : BL), ls[j]? = some x → R[j]? = some ((j : Int), x.l, false)) := Lib.hid (fun j x hj => HRJ.out j x (List.getElem?_eq_some_iff.1 hj).1 hj)
      have H2 := Lib.hid (And.intro hp hrow)
      have hRle : R.length ≤ ls.length + 0 := by omega
      clear HRJ hp hrow hRl hlt hk
      obtain ⟨wo, rfl⟩ : ∃ wo : World, wo = wr := ⟨_, rfl⟩
      go_wp2_with fail
      go_loopg [6, 49] lc.length (fun g u6 u49 wr => ∃ (q : Nat) (R : List PF), q ≤ lc.length ∧ g = lc.length - q ∧ u49 = .int .i64 q ∧ R.length ≤ ls.length + q ∧ Hid (∀ (j : Nat) (x : BL), ls[j]? = some x → R[j]? = some ((j : Int), x.l, false)) ∧ Hid (∀ y ∈ R, y.2.2 = false) ∧ PW w wr b R (fun x => u6.ownBlock = some x) ∧ StrOwn wr w.heap.size u6 (R.map (fun x => x.2.1)))
      case atStart => exact ⟨0, R, by omega, rfl, rfl, hRle, HRK, HFL, H2.out.1, H2.out.2⟩
      case round =>
        clear H2 HRK HFL hRle R
        obtain ⟨q, R, hq, rfl, rfl, hRl, HRK, HFL, hp, hrow⟩ := hrel
        by_cases hlt : q < lc.length
        case pos =>
          obtain ⟨gc, oc, rfl, hcc⟩ := sees_at (HA.out.2.fr hp.fr (fun _ _ h => h)) q hlt
          unfold bv at hcc
          have HP := Lib.hid hp
          have HRW := Lib.hid hrow
          clear hp hrow
          have hd256 := (lc.getD q 0).toNat_lt
          generalize (lc.getD q 0).toNat = d at *
          by_cases h0 : ls.length = 0
          case pos =>
            have hg : ¬ (0 : Int) < (ls.length : Int) := by omega
            clear h0
            go_wp2_with fail
            go_roundg (lc.length - (q + 1))
            case measure => omega
            case rel => exact ⟨q + 1, R, by omega, rfl, by simp, by omega, HRK, HFL, HP.out, HRW.out⟩
          case neg =>
            have hg : (0 : Int) < (ls.length : Int) := by omega
            have hg2 : ¬ ((ls.length : Int) = 0) := by omega
            have hg3 : ¬ ls = [] := fun e => h0 (by rw [e]; rfl)
            have hjn : d % ls.length < ls.length := Nat.mod_lt _ (by omega)
            have hmod : (d : Int).tmod (ls.length : Int) = ((d % ls.length : Nat) : Int) := by
              rw [Int.tmod_eq_emod_of_nonneg (by omega)]; simp
            obtain ⟨j, hj⟩ : ∃ j, j = d % ls.length := ⟨_, rfl⟩
            rw [← hj] at hjn hmod
            clear hj
            have hwd : IntKind.i64.wrap (d : Int) = (d : Int) := by rw [IntKind.wrap_i64]; omega
            obtain ⟨x, hx⟩ : ∃ x, ls[j]? = some x := ⟨_, List.getElem?_eq_getElem hjn⟩
            obtain ⟨hso, ga, oa, rfl, hcell⟩ := HA.out.1 j x hx
            have HX := Lib.hid (And.intro hx hso)
            have HC := Lib.hid hcell
            clear hx hso hcell
            obtain ⟨xl, xa, xc⟩ := x
            simp only [BL.sl] at *
            have hRj := HRK.out j _ HX.out.1
            dsimp only at hRj
            have hjR : j < R.length := (List.getElem?_eq_some_iff.1 hRj).1
            have hcp : copyP R j = R ++ [((j : Int), xl, false)] := by
              have hb : hasB j R.length = true := by unfold hasB; simp; omega
              have hlk : lookP R j = ((j : Int), xl, false) := by
                unfold lookP
                rw [hb, if_pos rfl]
                simp [List.getD, hRj]
              unfold copyP sendP
              rw [hb, if_pos rfl, hlk, if_pos (by omega)]
            have HCP := Lib.hid (copy_pw HP.out j)
            rw [hcp] at HCP
            clear hcp hRj
            go_wp2_with fail
            refine HCP.out.mono ?_
            clear HCP
            rintro z w3 ⟨rfl, hp3, f3⟩
            have hrow3 : StrOwn w3 w.heap.size u6 (R.map (fun x => x.2.1)) := ownsRow_fr HRW.out f3 (fun k hk h => h.2 hk)
            have t1 := sees_str (HX.out.2.1.fr hp3.fr (fun _ _ h => h))
            have hcl : w3.cell? ⟨ga, oa + j, none⟩ = some (.slice xa xl.length xc) := by rw [hp3.fr.cell (World.block_lt_of_cell? w _ HC.out) (fun h => h)]; exact HC.out
            obtain ⟨S, hS⟩ : ∃ S : ByteArray, S = ⟨xl.toArray⟩ := ⟨_, rfl⟩
            unfold sv at t1
            rw [← hS] at t1
            have HS := Lib.hid hS
            have H3 := Lib.hid (And.intro hp3 hrow3)
            clear hp3 hrow3 f3 HP HRW hS hcc
            have hjn' : (j : Int) < (ls.length : Int) := by omega
            go_wp2_with (at_builtin; refine wpList_append_str rfl (.tmp 63) (.tmp 73) rfl w.heap.size u6 (R.map (fun x => x.2.1)) rfl ?own _ 1 xl rfl ?row ?len ?base ?grow)
            case own => exact ownsRow_fr H3.out.2 ((Fr.refl (fun _ => False) w3).alloc (.cells #[.string S] 9)) (fun _ _ h => h)
            case row => rw [HS.out]; exact heap_alloc_new w3 _
            case len => rw [List.length_map]; omega
            case base => have := H3.out.1.fr.size; simp; omega
            case grow =>
              intro v' w4 k1 k2 k3
              have hlt4 := fun k hk => (World.ownsRow.lt k1 k hk).2
              obtain ⟨va', vc', hv'⟩ := slice_of_own k1
              have H4 := Lib.hid (And.intro (PW.grown (H3.out.1.fr0 ((Fr.refl (fun _ => False) w3).alloc (.cells #[.string S] 9))) k2 (by rw [World.size_alloc]; exact k3) hlt4) k1)
              clear k1 k2 k3 hlt4 H3 t1
              go_wp2_with fail
              go_roundg (lc.length - (q + 1))
              case measure => omega
              case rel =>
                refine ⟨q + 1, R ++ [((j : Int), xl, false)], by omega, rfl, by simp, by rw [List.length_append, List.length_singleton]; omega, Lib.hid (fun i x he => ?_), Lib.hid (fun y hy => ?_), H4.out.1, ?_⟩
                · have h1 := HRK.out i x he
                  rw [List.getElem?_append_left (List.getElem?_eq_some_iff.1 h1).1]
                  exact h1
                · rcases List.mem_append.1 hy with hy | hy
                  · exact HFL.out y hy
                  · simp at hy
                    subst hy
                    rfl
                · have := H4.out.2
                  rw [List.map_append]
                  exact this
        case neg =>
          obtain rfl : lc.length = q := by omega
          have H3 := Lib.hid (And.intro hp hrow)
          have hRl2 : R.length ≤ 100 := by omega
          clear hp hrow hlt hq hRl HRK
          obtain ⟨wo, rfl⟩ : ∃ wo : World, wo = wr := ⟨_, rfl⟩
          obtain ⟨ra, rc, hu6⟩ := slice_of_own H3.out.2
          rw [List.length_map] at hu6
          subst hu6
          go_wp2_with fail
          go_loopg [78] R.length (fun g u78 wr => ∃ q : Nat, q ≤ R.length ∧ g = R.length - q ∧ u78 = .int .i64 q ∧ PW w wr b (R.drop q) (fun x => (Value.slice ra R.length rc).ownBlock = some x) ∧ StrOwn wr w.heap.size (.slice ra R.length rc) (R.map (fun x => x.2.1)))
          case atStart => exact ⟨0, by omega, rfl, rfl, H3.out.1, H3.out.2⟩
          case round =>
            clear H3
            obtain ⟨q, hq, rfl, rfl, hp, hrow⟩ := hrel
            by_cases hlt : q < R.length
            case neg =>
              obtain rfl : R.length = q := by omega
              have hln := len_pw hp
              rw [List.drop_length] at hln
              have HF := Lib.hid hp.fr
              clear hp hrow hq
              go_wp2_with fail
              refine hln.mono ?_
              rintro z w4 ⟨rfl, rfl⟩
              clear hln
              go_wp2_with fail
              go_ret
              exact ⟨rfl, HF.out⟩
            case pos =>
              obtain ⟨gw, cw, hrs, hcw⟩ := str_at hrow q (by rw [List.length_map]; exact hlt)
              rw [List.length_map] at hrs
              cases hrs
              rw [List.getElem_map] at hcw
              obtain ⟨y, hy⟩ : ∃ y, y = R[q] := ⟨_, rfl⟩
              have hys : y.2.2 = false := HFL.out y (by rw [hy]; exact List.getElem_mem hlt)
              have hdr : R.drop q = y :: R.drop (q + 1) := by rw [hy]; exact List.drop_eq_getElem_cons hlt
              have htk := take_pw hp 0
              rw [hdr, show lookP (y :: R.drop (q + 1)) 0 = y by unfold lookP hasB; rw [if_pos (by simp)]; rfl, show hasB 0 (y :: R.drop (q + 1)).length = true by unfold hasB; simp, show takeP (y :: R.drop (q + 1)) 0 = R.drop (q + 1) by unfold takeP hasB; rw [if_pos (by simp)]; rfl, hys] at htk
              rw [← hy] at hcw
              have HTK := Lib.hid htk
              have HRW := Lib.hid hrow
              clear hp hrow htk hdr hys hy
              obtain ⟨yt, ly, ys⟩ := y
              dsimp only at *
              unfold sv at hcw
              obtain ⟨S, hS⟩ : ∃ S : ByteArray, S = ⟨ly.toArray⟩ := ⟨_, rfl⟩
              rw [← hS] at hcw
              have HS := Lib.hid hS
              clear hS
              go_wp2_with fail
              refine HTK.out.mono ?_
              clear HTK
              rintro z w4 ⟨u, rfl, hsu, hp4, f4⟩
              obtain ⟨ua, uc, rfl, _⟩ := hsu.shape
              have f5 : Fr (fun _ => False) w4 (w4.alloc (oFl yt (.slice ua ly.length uc) false)) := (Fr.refl _ _).alloc _
              have t1 := sees_str (hsu.fr f5 (fun _ _ h => h))
              unfold sv at t1
              rw [← HS.out] at t1
              have H5 := Lib.hid (And.intro (hp4.fr0 f5) (ownsRow_fr (ownsRow_fr HRW.out f4 (fun k hk h => h.2 hk)) f5 (fun _ _ h => h)))
              have q5 := heap_alloc_new w4 (oFl yt (.slice ua ly.length uc) false)
              clear hsu hp4 f4 f5 HRW hcw
              go_upto_region 26 with fail
              generalize w4.alloc (oFl yt (.slice ua ly.length uc) false) = w5 at *
              generalize w4.heap.size = g13 at *
              obtain ⟨c0, c1, c2⟩ := cell3 q5
              clear q5
              generalize ly.length = ln at *
              go_wp2_with fail
              go_roundg (R.length - (q + 1))
              case measure => omega
              case rel => exact ⟨q + 1, by omega, rfl, by simp, H5.out.1, H5.out.2⟩

/-- For every slices, in the form that the statement's lift takes. -/
theorem order_all {w : World} (t : List BL) (v : Value) (hv : LLV w t v) (va : Value) (la : List Int) (ha : SeesL w va (la.map (Value.int .u8))) (fa : ∀ n ∈ la, (Lit.int .u8 n).wf = true) :
    Calls Try.prog 5 #[v, va] w fun e w' => e = .returned (.bool true) ∧ Fr (fun _ => False) w w' := order_any v va t _ w hv (sees_u8 ha fa)
end Go.Proofs.Ytojfabhbkdddpaa
