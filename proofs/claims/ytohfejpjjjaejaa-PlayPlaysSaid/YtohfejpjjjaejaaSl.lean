/-
  PlayPlays, part 12 of what it rests on: ValRBuild3, ValRBuild4, ValRBuild5, ValRBuild6, ValOf, PlaysLinks, ValBuildsMath.
-/
import Derived.Test.YtohfejpjjjaejaaSk
import Derived.BigRegion
import Derived.Deep.LoopGhost
set_option linter.unusedVariables false
set_option linter.unusedSimpArgs false
set_option maxHeartbeats 32000000
namespace Go.Proofs.Ytohfejpjjjaejaa
open Go.RowKit
open Go.Lib (hid)
section
attribute [local go_sem] run_store_float

def RLoc (wx : World) (vb : Nat) (po : Value) : Prop := wx.heap[vb]? = some (.cells #[.int .i64 0, .float .f64 0, .string ⟨#[]⟩, po] 58 (0, 0))

abbrev RRow (wx : World) (vb : Nat) (po : Value) (L : List VT) : Prop := ItRow vShown 58 4 (vb + 1) (fun _ => False) wx po L

def RAccS (wr : World) (b vb : Nat) (nv po : Value) (L : List VT) (s s' : Nat × Nat) (T : VT) : List Value -> World -> Prop
 | [], wx => Fr (Dirt b vb po) wr wx /\ MBox wx b nv s.1 s.2 /\ RLoc wx vb po /\ RRow wx vb po L
 | [v], wx => Fr (Dirt b vb po) wr wx /\ MBox wx b nv s'.1 s'.2 /\ RLoc wx vb po /\ RRow wx vb po L /\ VShows (fun k => wr.heap.size <= k) wx T v
 | [_, u], wx => Fr (Dirt b vb po) wr wx /\ MBox wx b nv s'.1 s'.2 /\ RLoc wx vb po /\ RRow wx vb po L /\ ∃ gg y0 y1 y2 y3, u = .slice (some ⟨gg, 0, none⟩) 1 1 /\ wx.heap[gg]? = some (.cells #[y0, y1, y2, y3] 58 (0, 0)) /\ VShows (fun k => wr.heap.size <= k) wx T (.agg #[y0, y1, y2, y3])
 | [_, _, x], wx => Fr (Dirt b vb po) wr wx /\ MBox wx b nv s'.1 s'.2 /\ RLoc wx vb po /\ RRow wx vb x (L ++ [T])
 | _ :: _ :: x :: _ :: _, wx => Fr (Dirt b vb po) wr wx /\ MBox wx b nv s'.1 s'.2 /\ RLoc wx vb x /\ RRow wx vb x (L ++ [T])

theorem RAccS.f {wr : World} {b vb : Nat} {nv po : Value} {L : List VT} {s s' : Nat × Nat} {T : VT} {cvs : List Value} {wx : World} (h : RAccS wr b vb nv po L s s' T cvs wx) : Fr (Dirt b vb po) wr wx := by
 match cvs with
 | [] => exact h.1
 | [_] => exact h.1
 | [_, _] => exact h.1
 | [_, _, _] => exact h.1
 | _ :: _ :: _ :: _ :: _ => exact h.1

theorem RAccS.loc {wr : World} {b vb : Nat} {nv po : Value} {L : List VT} {s s' : Nat × Nat} {T : VT} {cvs : List Value} {wx : World} (h : RAccS wr b vb nv po L s s' T cvs wx) (hc : cvs.length <= 3) : RLoc wx vb po := by
 match cvs with
 | [] => exact h.2.2.1
 | [_] => exact h.2.2.1
 | [_, _] => exact h.2.2.1
 | [_, _, _] => exact h.2.2.1
 | _ :: _ :: _ :: _ :: _ => simp at hc

theorem rrecord_done {l : List Int} {t : KT} {w w2 : World} {b rb vb tk bg tk2 bg2 : Nat} {nv : Value} {x0 x1 x2 x3 : Value} {L : List VT} {a : Option Addr} {cap : Nat}
  (p : w2.heap[rb]? = some (.cells #[x0, x1, x2, x3] 58 (0, 0))) (f2 : Fr (fun k => k = b) w w2) (b2 : MBox w2 b nv tk2 bg2) (hrb : rb ≠ b) (hrb0 : w.heap.size <= rb) (hvb : rb < vb) (n : Nat) (hn : n = L.length) (hrow : RRow w2 vb (.slice a n cap) L)
  (hL : L.length <= 100000) (hE : buildE l t (tk, bg) = (listV L, tk2, bg2)) :
  RBuiltAs l t w b nv tk bg (.returned (.agg #[.int .i64 0, .float .f64 0, .string ⟨#[]⟩, .slice a n cap])) ((((w2.setCell ⟨rb, 0, none⟩ (.int .i64 0)).setCell ⟨rb, 1, none⟩ (.float .f64 0)).setCell ⟨rb, 2, none⟩ (.string ⟨#[]⟩)).setCell ⟨rb, 3, none⟩ (.slice a n cap)) := by
 subst hn
 have hk := ItRow.vkids' hrow (fun i => L.getD i .nil) (fun i x hi => by rw [List.getD_eq_getElem?_getD, hi]; rfl)
 refine rbuild_done (s := []) p f2 b2 hrb hrb0 hE (by unfold VB maxLen; simp; omega) ?_
 rcases hk with h | ⟨h1, g, off, hg, e, hc⟩
 ·exact .inl h
 ·refine .inr ⟨h1, g, off, ⟨by omega, by omega⟩, e, fun i hi => ?_⟩
  obtain ⟨x0, x1, x2, x3, d0, d1, d2, d3, hx⟩ := hc i hi
  exact ⟨x0, x1, x2, x3, d0, d1, d2, d3, VShows.mono (fun k _ (h : vb + 1 <= k) => ⟨by omega, by omega⟩) _ _ hx⟩

set_option maxRecDepth 100000 in
theorem rbuild_k6 (l : List Int) (k : Nat) (m : Int) (ns : List Txt) (n : Nat) (of : Nat -> KT) (ih : ∀ i, RBuildAt l (of i)) (hk0 : k = 6) : RBuildAt l (.mk k m ns n of) := by
 intro R v nv w b tk bg hgood htk hbg hsh hRb hnum hbox
 obtain ⟨⟨hn12, hown⟩, hkids⟩ := hgood
 obtain ⟨hk8, hmost, hone, hparts, hnames, hnone⟩ := own_facts hown
 have hcost : 1 <= costE (.mk k m ns n of) := by unfold costE; omega
 have htk' : tk <= 100000 := by omega
 have hbg' : bg + 1 <= 100000 := by omega
 obtain ⟨_, _, _, _, _, a', c', e1, rfl, hrb, hrk⟩ := rshows_open hsh
 cases e1
 obtain ⟨nn, hnn⟩ : ∃ nn, ns.length = nn := ⟨_, rfl⟩
 have HRK := hid hrk
 have HRB := hid (show ∀ i, R i -> ¬ i = b from fun i hi e => hRb (by rw [<- e]; exact hi))
 have HN := hid hnum
 have HBX := hid hbox
 have hbl : b < w.heap.size := lt_of_block hbox
 have HBL := hid hbl
 obtain ⟨na, nc, rfl⟩ := hnum.shape
 unfold MBox at hbox
 have r0 := cells_row hbox 2 _ rfl
 have z0 : w.frozen? ⟨b, 2, none⟩ = false := by simp [World.frozen?, hbox]
 have n1 : b ≠ w.heap.size := by omega
 have n2 : w.heap.size ≠ b := by omega
 have n3 : b ≠ w.heap.size + 1 := by omega
 have n4 : w.heap.size + 1 ≠ b := by omega
 have HK := hid (And.intro hk0 (And.intro hmost (And.intro hone (And.intro hparts (And.intro hnames (And.intro hnone hnn))))))
 have HKIDS := hid hkids
 have HCST := hid (And.intro htk hbg)
 
 rw [hnn] at hrb ⊢
 obtain ⟨kz, hkz⟩ : ∃ kz : Int, (k : Int) = kz := ⟨_, rfl⟩
 rw [hkz]
 have e0 : (kz == 0) = false := by simp; omega
 have e1 : (kz == 1) = false := by simp; omega
 have e2 : (kz == 2) = false := by simp; omega
 have e3 : (kz == 3) = false := by simp; omega
 have e4 : (kz == 4) = false := by simp; omega
 have e5 : (kz == 5) = false := by simp; omega
 have e6 : (kz == 6) = true := by simp; omega
 have e7 : (kz == 7) = false := by simp; omega
 have e8 : (kz == 8) = false := by simp; omega
 clear hsh hrk hRb hnum hbox hk0 hk8 hmost hone hparts hnames hnone hkids htk hbg hkz hown hcost hrb hnn
 obtain ⟨w1, hw1⟩ : ∃ w1, w1 = (((w.setCell ⟨b, 2, none⟩ (.int .i64 ((bg : Int) + 1))).alloc (.cells #[.int .i64 kz, .int .i64 m, .int .i64 (nn : Nat), .slice a' n c'] 54)).alloc (.cells #[.int .i64 0, .float .f64 0, .string ⟨#[]⟩, .slice none 0 0] 58)).alloc (.cells #[.int .i64 0, .float .f64 0, .string ⟨#[]⟩, .slice none 0 0] 58) := ⟨_, rfl⟩
 obtain ⟨q1, p1, v1, b1, f1⟩ := rbuild_box kz m nn a' n c' HBX.out hw1
 go_enter Try.func15, Try.ntmps15
 go_upto_region 3 with fail
 rw [<- hw1]
 obtain ⟨tb, htb⟩ : ∃ tb, w.heap.size = tb := ⟨_, rfl⟩
 rw [htb] at q1 p1 v1 hbl n1 n2 n3 n4 ⊢
 have HTB := hid htb
 clear hw1 htb r0 z0 n1 n2 n3 n4 hbl
 try simp only [Nat.add_assoc, Nat.reduceAdd]
 obtain ⟨rb, hrb⟩ : ∃ rb, tb + 1 = rb := ⟨_, rfl⟩
 obtain ⟨pb, hpb⟩ : ∃ pb, tb + 2 = pb := ⟨_, rfl⟩
 rw [hrb] at p1 ⊢
 rw [hpb] at v1 ⊢
 have HORD := hid (show b < tb /\ tb < rb /\ rb < pb from ⟨by have := HBL.out; have := HTB.out; omega, by omega, by omega⟩)
 have m1 : tb ≠ pb := by omega
 have m2 : rb ≠ pb := by omega
 have m3 : pb ≠ rb := by omega
 have m4 : tb ≠ rb := by omega
 clear hrb hpb
 have H1 := hid (And.intro q1 (And.intro p1 (And.intro v1 (And.intro b1 f1))))
 have c0 := cells_row q1 0 _ rfl
 have c1 := cells_row q1 1 _ rfl
 have c2 := cells_row q1 2 _ rfl
 have c3 := cells_row q1 3 _ rfl
 clear q1 p1 v1 b1 f1
 have hn100 : n <= 12 := hn12
 have t0 := cells_row H1.out.2.2.1 0 _ rfl
 go_wp2
 clear c0 c1 c2 c3 t0
 have HN2 := hid (HN.out.mono (S := fun k => R k /\ k < w.heap.size) (fun k hk h => ⟨h, hk⟩))
 obtain ⟨f, hf⟩ : ∃ f : Nat -> Nat × Nat -> VT × (Nat × Nat), f = (fun i q => buildE l (of i) q) := ⟨_, rfl⟩
 have HF := hid hf
 have HE : Hid (buildE l (.mk k m ns n of) (tk, bg) = (listV (partsL f n (tk, bg + 1)).1, (partsL f n (tk, bg + 1)).2)) := hid (by
  have hk := HK.out.1
  subst hk
  rw [hf]
  exact buildE_record l m ns n of (tk, bg))
 have HBD : Hid (∀ j, j < n -> (partsL f j (tk, bg + 1)).2.1 + costE (of j) <= 100000 /\ (partsL f j (tk, bg + 1)).2.2 + costE (of j) <= 100000) := hid (fun j hj => by
  have h1 := partsL_le f (fun i => costE (of i)) n (fun i s hi => by rw [hf]; exact (build_le l (of i) (HKIDS.out i hi) s).1) (tk, bg + 1) j (by omega)
  have h2 := sumTo_le (fun i => costE (of i)) j n hj
  have h3 := HCST.out
  have h4 := cost_parts k m ns n of (by have := HK.out.1; omega)
  simp only at h1
  omega)
 clear hf
 generalize hln : l.length = ln at *
 clear hln
 go_loopg [10] n (fun G ui wr => ∃ (j : Nat) (po : Value), j <= n /\ G = n - j /\ ui = .int .i64 j /\ Hid (Fr (fun k => k = b) w wr /\ MBox wr b (.slice na ln nc) (partsL f j (tk, bg + 1)).2.1 (partsL f j (tk, bg + 1)).2.2 /\ RLoc wr pb po /\ RRow wr pb po (partsL f j (tk, bg + 1)).1 /\ wr.heap[rb]? = some (.cells #[.int .i64 0, .float .f64 0, .string ⟨#[]⟩, .slice none 0 0] 58 (0, 0)) /\ wr.heap[tb]? = some (.cells #[.int .i64 kz, .int .i64 m, .int .i64 (nn : Nat), .slice a' n c'] 54 (0, 0))))
 case atStart => exact ⟨0, .slice none 0 0, Nat.zero_le _, rfl, by go_num, hid ⟨H1.out.2.2.2.2, H1.out.2.2.2.1, H1.out.2.2.1, ItRow.nil _ _ _ _ _ _, H1.out.2.1, H1.out.1⟩⟩
 case round =>
  obtain ⟨j, po, hj, rfl, rfl, HI⟩ := hrel
  have hlen := partsL_length f j (tk, bg + 1)
  obtain ⟨qa, qc, hpo⟩ : ∃ qa qc, po = .slice qa j qc := by
   obtain ⟨qa, qc, e⟩ := HI.out.2.2.2.1.slice
   rw [hlen] at e
   exact ⟨qa, qc, e⟩
  subst hpo
  have HLEN := hid hlen
  clear hlen
  have qr := HI.out.2.2.2.2.2
  have c0 := cells_row qr 0 _ rfl
  have c1 := cells_row qr 1 _ rfl
  have c2 := cells_row qr 2 _ rfl
  have c3 := cells_row qr 3 _ rfl
  clear qr
  by_cases hlt : j < n
  ·rcases HRK.out with hz | ⟨hcap, g, off, hg, rfl, hcell⟩
   ·omega
   obtain ⟨x0, x1, x2, x3, k0, k1, k2, k3, hx⟩ := hcell j (by omega)
   obtain ⟨ak, am, an, aa, ac, acap, ex⟩ := hx.lit
   simp only [Value.agg.injEq, Array.mk.injEq, List.cons.injEq, and_true] at ex
   obtain ⟨rfl, rfl, rfl, rfl⟩ := ex
   skip
   have hgs : g < w.heap.size := World.block_lt_of_cell? w _ k0
   have hgS : R g /\ g < w.heap.size := ⟨hg, hgs⟩
   have k0 := cell_fr HI.out.1 HRB.out hg k0
   have k1 := cell_fr HI.out.1 HRB.out hg k1
   have k2 := cell_fr HI.out.1 HRB.out hg k2
   have k3 := cell_fr HI.out.1 HRB.out hg k3
   have HX := hid (RShows.fr HI.out.1 (fun k hk e => HRB.out k hk.1 e) _ _ (RShows.mono (S := fun k => R k /\ k < w.heap.size) (fun k hk h => ⟨h, hk⟩) _ _ hx))
   have hown : ∀ k, (Value.slice qa j qc).ownBlock = some k -> pb + 1 <= k := fun k hk => (HI.out.2.2.2.1.own k hk).1
   have HOWN := hid hown
   have HND := hid (show ∀ k, (R k /\ k < w.heap.size) -> ¬ Dirt b pb (.slice qa j qc) k from fun k hk h => by
    rcases h with h | h | h
    ·exact HRB.out k hk.1 h
    ·have := HORD.out; have := HTB.out; omega
    ·have := hown _ h; have := HORD.out; have := HTB.out; omega)
   have HY := hid (And.intro hgS (And.intro k0 (And.intro k1 (And.intro k2 k3))))
   have HLT := hid hlt
   have jn : (j : Int) < (n : Int) := by omega
   have j0 : (0 : Int) <= (j : Int) := by omega
   have jc : (j : Int) < (n : Int) := by omega
   clear hcell hx hg hgs hgS hown k0 k1 k2 k3
   go_upto_region 32 with fail
   clear c0 c1 c2 c3 hlt
   obtain ⟨s, hs⟩ : ∃ s, s = (partsL f j (tk, bg + 1)).2 := ⟨_, rfl⟩
   obtain ⟨L, hL⟩ : ∃ L, L = (partsL f j (tk, bg + 1)).1 := ⟨_, rfl⟩
   have HSL := hid (And.intro hs hL)
   have hacc : RAccS wr b pb (.slice na ln nc) (.slice qa j qc) L s (f j s).2 (f j s).1 [] wr.drew := by
    rw [hs, hL]
    exact ⟨(Fr.refl _ _).drew, HI.out.2.1.fr ((Fr.refl (fun _ => False) _).drew) (fun h => h), box_kept HI.out.2.2.1 ((Fr.refl (fun _ => False) _).drew) (fun h => h), HI.out.2.2.2.1.fr ((Fr.refl (fun _ => False) _).drew) fid2⟩
   have HACC := hid hacc
   have hbnd : s.1 + costE (of j) <= 100000 /\ s.2 + costE (of j) <= 100000 := by
    rw [hs]
    exact HBD.out j HLT.out
   have HBND := hid hbnd
   have hLj : L.length = j := by rw [hL]; exact HLEN.out
   have HLJ := hid hLj
   have HFJ : Hid (f j s = buildE l (of j) s) := hid (by rw [HF.out])
   have hpbw : pb < wr.heap.size := lt_of_block HI.out.2.2.1
   have HPW := hid hpbw
   clear hs hL hacc hbnd hLj hpbw
   refine wp_region_chain (by kernel_rfl) [some 146, some 147, some 148, some 149, some 150, some 151, some 152, some 153, some 154, some 155, some 156, some 157, none] rfl (by decide) (by intro d hd; simp at hd ⊢; omega)
    [8, 9, 10, 12] (RAccS wr b pb (.slice na ln nc) (.slice qa j qc) L s (f j s).2 (f j s).1)
    [.free (.pointer (some ⟨pb, 3, none⟩)), .free (.slice qa j qc), .free (.pointer (some ⟨b, 0, none⟩)), .free (.pointer (some ⟨tb, 3, none⟩)), .free (.slice (some ⟨g, off, none⟩) n c'), .free (.int .i64 j), .free (.pointer (some ⟨g, off + j * 4, none⟩)), .free (.agg #[.int .i64 ak, .int .i64 am, .int .i64 an, .slice aa ac acap]), .link none, .link none, .link none, .free (.pointer (some ⟨pb, 3, none⟩)), .link none]
    (by kernel_rfl) (by kernel_rfl) ?h0 ?step ?fin
   case h0 => exact HACC.out
   case step =>
    intro vals2
    simp only [frOfU, fillU, zsl]
    repeat' (first | exact AllOps.nil | refine AllOps.cons ?_ ?_)
    all_goals
     intro cvs wx hS he hu hlim K hK
     simp only [Act.put, zsl, zgl] at hK
     simp only [zml, Region.binds, forall_const, vmode_gc, Bool.false_eq_true, false_imp_iff, zgl, OpSort.val, Option.some.injEq, forall_eq', reduceCtorEq, implies_true, true_and, and_true] at he
     have HSX := hid hS
     clear hS
    all_goals first | (clear hlim hu; (try simp only [he] at hK ⊢); go_simp; exact hK) | skip
    ·have hl := HSX.out.loc (Nat.le_trans (hlim 2 10 rfl (by kernel_rfl)) (by omega))
     have e3 := cells_row hl 3 _ rfl
     clear hlim hu hl
     simp only [he] at hK ⊢
     go_simp
     exact hK
    ·have e3 := cells_row (box_kept HI.out.2.2.2.2.2 HSX.out.f (fun h => by
      have := HORD.out
      rcases h with h | h | h
      ·omega
      ·omega
      ·have := HOWN.out _ h; omega)) 3 _ rfl
     clear hlim hu
     simp only [he] at hK ⊢
     go_simp
     exact hK
    ·have e0 := cell_fr HSX.out.f HND.out HY.out.1 HY.out.2.1
     have e1 := cell_fr HSX.out.f HND.out HY.out.1 HY.out.2.2.1
     have e2 := cell_fr HSX.out.f HND.out HY.out.1 HY.out.2.2.2.1
     have e3 := cell_fr HSX.out.f HND.out HY.out.1 HY.out.2.2.2.2
     clear hlim hu
     simp only [he] at hK ⊢
     go_simp
     exact hK
    ·obtain rfl := hlim (0 : Nat) rfl
     have h1 := HSX.out
     simp only [List.take_zero, List.map_nil] at h1
     have H2 := hid h1
     clear hlim hu HSX h1
     simp only [he] at hK ⊢
     go_simp
     go_at_call 15
     refine (ih j (fun k => R k /\ k < w.heap.size) _ _ wx b s.1 s.2 (HKIDS.out j (by have := HLT.out; omega)) HBND.out.1 HBND.out.2 (RShows.fr H2.out.1 HND.out _ _ HX.out) (fun h => HRB.out b h.1 rfl) ((HN2.out.fr HI.out.1 (fun k hk e => HRB.out k hk.1 e)).fr H2.out.1 HND.out) H2.out.2.1).mono ?_
     rintro e1 wa ⟨v', rfl, hsv, fa, ba⟩
     have fe : buildE l (of j) (s.1, s.2) = f j s := HFJ.out.symm
     rw [fe] at hsv ba
     refine hK _ _ (fun _ h => by cases h) ⟨H2.out.1.trans fa (fun i _ h => .inl h), ba, box_kept H2.out.2.2.1 fa (fun h => by have := HORD.out; omega), H2.out.2.2.2.fr fa (fun k hk h => by have := HORD.out; omega), VShows.mono (fun k _ hk => Nat.le_trans H2.out.1.size hk) _ _ hsv⟩
    ·obtain rfl := hlim (1 : Nat) rfl
     have h1 := HSX.out
     clear HSX hlim hu
     simp only [List.take_succ_cons, List.take_zero, List.map_cons, List.map_nil] at h1 hK
     obtain ⟨hf, hb, hl, hr, hs⟩ := h1
     obtain ⟨zn, zf, zs, za, zc, zcap, e4⟩ := hs.lit
     rw [e4] at hs
     have HH := hid (And.intro hf (And.intro hb (And.intro hl (And.intro hr hs))))
     clear hf hb hl hr hs
     simp only [he, e4] at hK ⊢
     go_simp
     have fa : Fr (fun _ => False) wx (wx.alloc (.cells #[.int .i64 zn, .float .f64 zf, .string zs, .slice za zc zcap] 58)) := (Fr.refl _ _).alloc _
     exact hK _ _ (fun _ h => by cases h) ⟨HH.out.1.trans fa (fun _ _ h => h.elim), HH.out.2.1.fr fa (fun h => h), box_kept HH.out.2.2.1 fa (fun h => h), HH.out.2.2.2.1.fr fa fid2, _, _, _, _, _, rfl, heap_alloc_new _ _, VShows.fr fa fid2 _ _ HH.out.2.2.2.2⟩
    ·obtain rfl := hlim (2 : Nat) rfl
     have h1 := HSX.out
     clear HSX hlim hu
     simp only [List.take_succ_cons, List.take_zero, List.map_cons, List.map_nil] at h1 hK
     obtain ⟨hf, hb, hl, hr, gg, y0, y1, y2, y3, e6, hgg, hss⟩ := h1
     rw [if_pos (by rfl)]
     have hsz := lt_of_block hl
     have hfs := hf.size
     have hord := HORD.out
     have hpw := HPW.out
     refine opWp_push (pv := (.slice qa j qc)) (l := L) (B := pb + 1) (X := fun _ => False) (D := vShown) (.tmp 147) (.tmp 155) 56 56 rfl Try.underlying56 Try.underlying56 Try.infoRV rfl (by decide) he hr gg e6 (news := [y0, y1, y2, y3]) hgg rfl (vshows_one hss) (by have := HLJ.out; omega) (by omega) (by omega) (fun k hk => hk.elim) (f j s).1 ⟨_, _, _, _, rfl, VShows.mono (fun k hk2 (hk : wr.heap.size <= k) => ⟨by omega, fun h => h, fun h => by have := (HI.out.2.2.2.1.own _ h).2; omega⟩) _ _ hss⟩ ?_
     intro v' w8 hrow f6 hv
     refine hK _ _ (fun _ h => by cases h) ⟨hf.trans f6 (fun i _ h => .inr (.inr h)), hb.fr f6 (fun h => by have := HOWN.out _ h; omega), box_kept hl f6 (fun h => by have := HOWN.out _ h; omega), hrow⟩
    ·obtain rfl := hlim (3 : Nat) rfl
     have h1 := HSX.out
     clear HSX hlim hu
     simp only [List.take_succ_cons, List.take_zero, List.map_cons, List.map_nil] at h1 hK
     obtain ⟨hf, hb, hl, hr⟩ := h1
     obtain ⟨xa, xn, xc, e7⟩ : ∃ xa xn xc, vals2 10 = .slice xa xn xc := by obtain ⟨a, c, e⟩ := hr.slice; exact ⟨a, _, c, e⟩
     have z2 : wx.frozen? ⟨pb, 3, none⟩ = false := by unfold RLoc at hl; simp [World.frozen?, hl]
     obtain ⟨e0, e1, e2, e3⟩ := cell_of_four hl
     have fs : Fr (fun k => k = pb) wx (wx.setCell ⟨pb, 3, none⟩ (vals2 10)) := Fr.set1 (Fr.refl _ _) 3 _
     have HG := hid (show RAccS wr b pb (.slice na ln nc) (.slice qa j qc) L s (f j s).2 (f j s).1 [vals2 8, vals2 9, vals2 10, undef] (wx.setCell ⟨pb, 3, none⟩ (vals2 10)) from
      ⟨hf.trans fs (fun i _ h => .inr (.inl h)), hb.fr fs (fun h => by have := HORD.out; omega), setCell_row 3 _ hl, hr.fr fs (fun k hk h => by omega)⟩)
     clear hf hb hl hr fs
     rw [e7] at HG
     simp only [he, e7] at hK ⊢
     go_simp
     exact hK undef _ (fun _ h => by cases h) HG.out
   case fin =>
    intro vals2 w7 hS hV
    clear hV
    simp only [List.map_cons, List.map_nil] at hS
    obtain ⟨hf, hb, hl, hr⟩ := hS
    have fw : Fr (fun k => k = b) w w7 := HI.out.1.trans hf (fun i hi h => by
     have := HORD.out
     have := HTB.out
     rcases h with h | h | h
     ·exact h
     ·omega
     ·have := HOWN.out _ h; omega)
    have hnot : ∀ i, i = rb \/ i = tb -> ¬ Dirt b pb (.slice qa j qc) i := fun i hi h => by
     have := HORD.out
     rcases h with h | h | h
     ·omega
     ·omega
     ·have := HOWN.out _ h; omega
    have hrbk := box_kept HI.out.2.2.2.2.1 hf (hnot _ (.inl rfl))
    have htbk := box_kept HI.out.2.2.2.2.2 hf (hnot _ (.inr rfl))
    have hps : partsL f (j + 1) (tk, bg + 1) = (L ++ [(f j s).1], (f j s).2) := by
     rw [HSL.out.1, HSL.out.2]; rfl
    have HS2 := hid (show Fr (fun k => k = b) w w7 /\ MBox w7 b (.slice na ln nc) (partsL f (j + 1) (tk, bg + 1)).2.1 (partsL f (j + 1) (tk, bg + 1)).2.2 /\ RLoc w7 pb (vals2 10) /\ RRow w7 pb (vals2 10) (partsL f (j + 1) (tk, bg + 1)).1 /\ w7.heap[rb]? = some (.cells #[.int .i64 0, .float .f64 0, .string ⟨#[]⟩, .slice none 0 0] 58 (0, 0)) /\ w7.heap[tb]? = some (.cells #[.int .i64 kz, .int .i64 m, .int .i64 (nn : Nat), .slice (some ⟨g, off, none⟩) n c'] 54 (0, 0)) from by
     rw [hps]; exact ⟨fw, hb, hl, hr, hrbk, htbk⟩)
    clear hf hb hl hr fw hrbk htbk hps hnot
    simp only [frOfU, fillU, zsl]
    go_wp2
    go_roundg (n - (j + 1))
    case measure => have := HLT.out; omega
    case rel => exact ⟨j + 1, vals2 10, HLT.out, rfl, by go_num, HS2⟩
  ·obtain rfl : j = n := by omega
   have q6 := HI.out.2.2.2.2.2
   have p6 := HI.out.2.2.2.2.1
   have v6 := HI.out.2.2.1
   unfold RLoc at v6
   have c0 := cells_row q6 0 _ rfl
   have t0 := cells_row v6 0 _ rfl
   have u0 : wr.frozen? ⟨pb, 0, none⟩ = false := by simp [World.frozen?, v6]
   have s0 := cells_row p6 0 _ rfl
   have y0 : wr.frozen? ⟨rb, 0, none⟩ = false := by simp [World.frozen?, p6]
   have c1 := cells_row q6 1 _ rfl
   have t1 := cells_row v6 1 _ rfl
   have u1 : wr.frozen? ⟨pb, 1, none⟩ = false := by simp [World.frozen?, v6]
   have s1 := cells_row p6 1 _ rfl
   have y1 : wr.frozen? ⟨rb, 1, none⟩ = false := by simp [World.frozen?, p6]
   have c2 := cells_row q6 2 _ rfl
   have t2 := cells_row v6 2 _ rfl
   have u2 : wr.frozen? ⟨pb, 2, none⟩ = false := by simp [World.frozen?, v6]
   have s2 := cells_row p6 2 _ rfl
   have y2 : wr.frozen? ⟨rb, 2, none⟩ = false := by simp [World.frozen?, p6]
   have c3 := cells_row q6 3 _ rfl
   have t3 := cells_row v6 3 _ rfl
   have u3 : wr.frozen? ⟨pb, 3, none⟩ = false := by simp [World.frozen?, v6]
   have s3 := cells_row p6 3 _ rfl
   have y3 : wr.frozen? ⟨rb, 3, none⟩ = false := by simp [World.frozen?, p6]
   clear q6 p6 v6
   go_wp2
   refine bodyPost_ret (results_cell_row rfl _ _ rb 58 _ _ _ rfl (store_four HI.out.2.2.2.2.1) Try.underlying58 rfl (by kernel_rfl)) rfl ?_
   exact rrecord_done HI.out.2.2.2.2.1 HI.out.1 HI.out.2.1 (by have := HORD.out; omega) (by have := HORD.out; have := HTB.out; omega) (by have := HORD.out; omega) _ HLEN.out.symm HI.out.2.2.2.1 (by have := HLEN.out; omega) HE.out

set_option maxRecDepth 100000 in
theorem rbuild_k5 (l : List Int) (k : Nat) (m : Int) (ns : List Txt) (n : Nat) (of : Nat -> KT) (ih : ∀ i, RBuildAt l (of i)) (hk0 : k = 5) : RBuildAt l (.mk k m ns n of) := by
 intro R v nv w b tk bg hgood htk hbg hsh hRb hnum hbox
 obtain ⟨⟨hn12, hown⟩, hkids⟩ := hgood
 obtain ⟨hk8, hmost, hone, hparts, hnames, hnone⟩ := own_facts hown
 have hcost : 1 <= costE (.mk k m ns n of) := by unfold costE; omega
 have htk' : tk <= 100000 := by omega
 have hbg' : bg + 1 <= 100000 := by omega
 obtain ⟨_, _, _, _, _, a', c', e1, rfl, hrb, hrk⟩ := rshows_open hsh
 cases e1
 obtain ⟨nn, hnn⟩ : ∃ nn, ns.length = nn := ⟨_, rfl⟩
 have HRK := hid hrk
 have HRB := hid (show ∀ i, R i -> ¬ i = b from fun i hi e => hRb (by rw [<- e]; exact hi))
 have HN := hid hnum
 have HBX := hid hbox
 have hbl : b < w.heap.size := lt_of_block hbox
 have HBL := hid hbl
 obtain ⟨na, nc, rfl⟩ := hnum.shape
 unfold MBox at hbox
 have r0 := cells_row hbox 2 _ rfl
 have z0 : w.frozen? ⟨b, 2, none⟩ = false := by simp [World.frozen?, hbox]
 have n1 : b ≠ w.heap.size := by omega
 have n2 : w.heap.size ≠ b := by omega
 have n3 : b ≠ w.heap.size + 1 := by omega
 have n4 : w.heap.size + 1 ≠ b := by omega
 have HK := hid (And.intro hk0 (And.intro hmost (And.intro hone (And.intro hparts (And.intro hnames (And.intro hnone hnn))))))
 have HKIDS := hid hkids
 have HCST := hid (And.intro htk hbg)
 
 rw [hnn] at hrb ⊢
 obtain ⟨kz, hkz⟩ : ∃ kz : Int, (k : Int) = kz := ⟨_, rfl⟩
 rw [hkz]
 have e0 : (kz == 0) = false := by simp; omega
 have e1 : (kz == 1) = false := by simp; omega
 have e2 : (kz == 2) = false := by simp; omega
 have e3 : (kz == 3) = false := by simp; omega
 have e4 : (kz == 4) = false := by simp; omega
 have e5 : (kz == 5) = true := by simp; omega
 have e6 : (kz == 6) = false := by simp; omega
 have e7 : (kz == 7) = false := by simp; omega
 have e8 : (kz == 8) = false := by simp; omega
 have HN1 := hid (hone hk0)
 have HMM := hid (hmost (.inr hk0))
 clear hsh hrk hRb hnum hbox hk0 hk8 hmost hone hparts hnames hnone hkids htk hbg hkz hown hcost hrb hnn
 obtain ⟨w1, hw1⟩ : ∃ w1, w1 = (((w.setCell ⟨b, 2, none⟩ (.int .i64 ((bg : Int) + 1))).alloc (.cells #[.int .i64 kz, .int .i64 m, .int .i64 (nn : Nat), .slice a' n c'] 54)).alloc (.cells #[.int .i64 0, .float .f64 0, .string ⟨#[]⟩, .slice none 0 0] 58)).alloc (.cells #[.int .i64 0, .float .f64 0, .string ⟨#[]⟩, .slice none 0 0] 58) := ⟨_, rfl⟩
 obtain ⟨q1, p1, v1, b1, f1⟩ := rbuild_box kz m nn a' n c' HBX.out hw1
 go_enter Try.func15, Try.ntmps15
 go_upto_region 3 with fail
 rw [<- hw1]
 obtain ⟨tb, htb⟩ : ∃ tb, w.heap.size = tb := ⟨_, rfl⟩
 rw [htb] at q1 p1 v1 hbl n1 n2 n3 n4 ⊢
 have HTB := hid htb
 clear hw1 htb r0 z0 n1 n2 n3 n4 hbl
 try simp only [Nat.add_assoc, Nat.reduceAdd]
 obtain ⟨rb, hrb⟩ : ∃ rb, tb + 1 = rb := ⟨_, rfl⟩
 obtain ⟨pb, hpb⟩ : ∃ pb, tb + 2 = pb := ⟨_, rfl⟩
 rw [hrb] at p1 ⊢
 rw [hpb] at v1 ⊢
 have HORD := hid (show b < tb /\ tb < rb /\ rb < pb from ⟨by have := HBL.out; have := HTB.out; omega, by omega, by omega⟩)
 have m1 : tb ≠ pb := by omega
 have m2 : rb ≠ pb := by omega
 have m3 : pb ≠ rb := by omega
 have m4 : tb ≠ rb := by omega
 clear hrb hpb
 have H1 := hid (And.intro q1 (And.intro p1 (And.intro v1 (And.intro b1 f1))))
 have c0 := cells_row q1 0 _ rfl
 have c1 := cells_row q1 1 _ rfl
 have c2 := cells_row q1 2 _ rfl
 have c3 := cells_row q1 3 _ rfl
 clear q1 p1 v1 b1 f1
 have r2 := cells_row H1.out.2.2.2.1 2 _ rfl
 by_cases hbig : 100 < bg + 1
 ·have l1 : decide ((bg : Int) + 1 <= 100) = false := by simp; omega
  have l2 : decide (((bg + 1 : Nat) : Int) <= 100) = false := by simp; omega
  have HBG := hid hbig
  clear hbig
  have p2 := H1.out.2.1
  have v2 := H1.out.2.2.1
  have q2 := H1.out.1
  have c0 := cells_row q2 0 _ rfl
  have t0 := cells_row v2 0 _ rfl
  have u0 : w1.frozen? ⟨pb, 0, none⟩ = false := by simp [World.frozen?, v2]
  have s0 := cells_row p2 0 _ rfl
  have y0 : w1.frozen? ⟨rb, 0, none⟩ = false := by simp [World.frozen?, p2]
  have c1 := cells_row q2 1 _ rfl
  have t1 := cells_row v2 1 _ rfl
  have u1 : w1.frozen? ⟨pb, 1, none⟩ = false := by simp [World.frozen?, v2]
  have s1 := cells_row p2 1 _ rfl
  have y1 : w1.frozen? ⟨rb, 1, none⟩ = false := by simp [World.frozen?, p2]
  have c2 := cells_row q2 2 _ rfl
  have t2 := cells_row v2 2 _ rfl
  have u2 : w1.frozen? ⟨pb, 2, none⟩ = false := by simp [World.frozen?, v2]
  have s2 := cells_row p2 2 _ rfl
  have y2 : w1.frozen? ⟨rb, 2, none⟩ = false := by simp [World.frozen?, p2]
  have c3 := cells_row q2 3 _ rfl
  have t3 := cells_row v2 3 _ rfl
  have u3 : w1.frozen? ⟨pb, 3, none⟩ = false := by simp [World.frozen?, v2]
  have s3 := cells_row p2 3 _ rfl
  have y3 : w1.frozen? ⟨rb, 3, none⟩ = false := by simp [World.frozen?, p2]
  clear p2 v2 q2
  go_wp2
  refine bodyPost_ret (results_cell_row rfl _ _ rb 58 _ _ _ rfl (store_four H1.out.2.1) Try.underlying58 rfl (by kernel_rfl)) rfl ?_
  exact rbuild_done (s := []) (of := fun i => ([] : List VT).getD i .nil) H1.out.2.1 H1.out.2.2.2.2 H1.out.2.2.2.1 (by have := HORD.out; omega) (by have := HORD.out; have := HTB.out; omega) (by have hk := HK.out.1; subst hk; rw [buildE_none l m ns n of (tk, bg) HBG.out]; rfl) (by unfold VB maxLen; simp) (.inl rfl)
 have l1 : decide ((bg : Int) + 1 <= 100) = true := by simp; omega
 have l2 : decide (((bg + 1 : Nat) : Int) <= 100) = true := by simp; omega
 have HBG := hid hbig
 clear hbig
 have hnext := rnext_any R l _ b tk (bg + 1) 4 w1 H1.out.2.2.2.1 (HN.out.fr H1.out.2.2.2.2 HRB.out) htk' (by omega) (by omega)
 obtain ⟨x, hx⟩ : ∃ x : Nat, numE l tk % 4 = x := ⟨(numE l tk % 4).toNat, by omega⟩
 have hx1 : x < 4 := by omega
 rw [hx] at hnext
 obtain ⟨mm, hmmE⟩ : ∃ mm : Nat, m = mm := ⟨m.toNat, by have := HMM.out; omega⟩
 subst hmmE
 obtain ⟨cc, hcc⟩ : ∃ cc : Nat, (min (numE l tk % 4) (mm : Int)).toNat = cc := ⟨_, rfl⟩
 have hcx : cc = min x mm := by rw [<- hcc, hx]; omega
 have HCC := hid hcc
 clear hx hcc
 have HXX := hid hcx
 go_wp2_with fail
 refine hnext.mono ?_
 rintro e w2 ⟨rfl, f2, b2⟩
 clear hnext c0 c1 c2 c3 r2
 have q2 := box_kept H1.out.1 f2 (fun e => by have := HORD.out; omega)
 have p2 := box_kept H1.out.2.1 f2 (fun e => by have := HORD.out; omega)
 have v2 := box_kept H1.out.2.2.1 f2 (fun e => by have := HORD.out; omega)
 have H2 := hid (And.intro q2 (And.intro p2 (And.intro v2 (And.intro (H1.out.2.2.2.2.trans f2 fid2) b2))))
 have c0 := cells_row q2 0 _ rfl
 have c1 := cells_row q2 1 _ rfl
 have c2 := cells_row q2 2 _ rfl
 have c3 := cells_row q2 3 _ rfl
 clear f2 b2 q2 p2 v2
 by_cases hmx : mm < x
 ·have dm : decide ((mm : Int) < (x : Int)) = true := by simp; omega
  obtain rfl : mm = cc := by omega
  have hc3 : mm <= 3 := by omega
  clear hcx
  go_wp2
  clear c0 c1 c2 c3 dm hmx
  have HN2 := hid (HN.out.mono (S := fun k => R k /\ k < w.heap.size) (fun k hk h => ⟨h, hk⟩))
  obtain ⟨f, hf⟩ : ∃ f : Nat -> Nat × Nat -> VT × (Nat × Nat), f = (fun _ q => buildE l (of 0) q) := ⟨_, rfl⟩
  have HF := hid hf
  have HE : Hid (buildE l (.mk k (mm : Int) ns n of) (tk, bg) = (listV (partsL f mm (nextE l tk, bg + 1)).1, (partsL f mm (nextE l tk, bg + 1)).2)) := hid (by
   have hk := HK.out.1
   subst hk
   rw [hf]
   rw [buildE_seq l _ ns n of (tk, bg) (by have := HBG.out; omega)]; simp only [HCC.out])
  have HBD : Hid (∀ j, j < mm -> (partsL f j (nextE l tk, bg + 1)).2.1 + costE (of 0) <= 100000 /\ (partsL f j (nextE l tk, bg + 1)).2.2 + costE (of 0) <= 100000) := hid (fun j hj => by
   have h1 := partsL_le f (fun _ => costE (of 0)) mm (fun i s hi => by rw [hf]; exact (build_le l (of 0) (HKIDS.out 0 (by have := HN1.out; omega)) s).1) (nextE l tk, bg + 1) j (by omega)
   have h2 : sumTo (fun _ => costE (of 0)) j = j * costE (of 0) := by
    clear hj h1
    induction j with
    | zero => simp [sumTo]
    | succ j ihj => rw [sumTo_succ, ihj, Nat.succ_mul]
   have h3 := HCST.out
   have h4 : costE (.mk k (mm : Int) ns n of) = 1 + 3 * costE (of 0) := by rw [HK.out.1]; exact cost_seq _ ns n of
   have h5 := nextE_le l tk
   have h6 : j * costE (of 0) + costE (of 0) <= 3 * costE (of 0) := by
    rw [<- Nat.succ_mul]
    exact Nat.mul_le_mul_right _ (by omega)
   simp only at h1
   omega)
  clear hf
  generalize hln : l.length = ln at *
  clear hln
  go_loopg [9] mm (fun G ui wr => ∃ (j : Nat) (po : Value), j <= mm /\ G = mm - j /\ ui = .int .i64 j /\ Hid (Fr (fun k => k = b) w wr /\ MBox wr b (.slice na ln nc) (partsL f j (nextE l tk, bg + 1)).2.1 (partsL f j (nextE l tk, bg + 1)).2.2 /\ RLoc wr pb po /\ RRow wr pb po (partsL f j (nextE l tk, bg + 1)).1 /\ wr.heap[rb]? = some (.cells #[.int .i64 0, .float .f64 0, .string ⟨#[]⟩, .slice none 0 0] 58 (0, 0)) /\ wr.heap[tb]? = some (.cells #[.int .i64 kz, .int .i64 (mm : Int), .int .i64 (nn : Nat), .slice a' n c'] 54 (0, 0))))
  case atStart => exact ⟨0, .slice none 0 0, Nat.zero_le _, rfl, by go_num, hid ⟨H2.out.2.2.2.1, H2.out.2.2.2.2, H2.out.2.2.1, ItRow.nil _ _ _ _ _ _, H2.out.2.1, H2.out.1⟩⟩
  case round =>
   obtain ⟨j, po, hj, rfl, rfl, HI⟩ := hrel
   have hlen := partsL_length f j (nextE l tk, bg + 1)
   obtain ⟨qa, qc, hpo⟩ : ∃ qa qc, po = .slice qa j qc := by
    obtain ⟨qa, qc, e⟩ := HI.out.2.2.2.1.slice
    rw [hlen] at e
    exact ⟨qa, qc, e⟩
   subst hpo
   have HLEN := hid hlen
   clear hlen
   have qr := HI.out.2.2.2.2.2
   have c0 := cells_row qr 0 _ rfl
   have c1 := cells_row qr 1 _ rfl
   have c2 := cells_row qr 2 _ rfl
   have c3 := cells_row qr 3 _ rfl
   clear qr
   by_cases hlt : j < mm
   ·rcases HRK.out with hz | ⟨hcap, g, off, hg, rfl, hcell⟩
    ·have := HN1.out; omega
    obtain ⟨x0, x1, x2, x3, k0, k1, k2, k3, hx⟩ := hcell 0 (by have := HN1.out; omega)
    obtain ⟨ak, am, an, aa, ac, acap, ex⟩ := hx.lit
    simp only [Value.agg.injEq, Array.mk.injEq, List.cons.injEq, and_true] at ex
    obtain ⟨rfl, rfl, rfl, rfl⟩ := ex
    simp only [Nat.zero_mul, Nat.add_zero] at k0 k1 k2 k3
    have hgs : g < w.heap.size := World.block_lt_of_cell? w _ k0
    have hgS : R g /\ g < w.heap.size := ⟨hg, hgs⟩
    have k0 := cell_fr HI.out.1 HRB.out hg k0
    have k1 := cell_fr HI.out.1 HRB.out hg k1
    have k2 := cell_fr HI.out.1 HRB.out hg k2
    have k3 := cell_fr HI.out.1 HRB.out hg k3
    have HX := hid (RShows.fr HI.out.1 (fun k hk e => HRB.out k hk.1 e) _ _ (RShows.mono (S := fun k => R k /\ k < w.heap.size) (fun k hk h => ⟨h, hk⟩) _ _ hx))
    have hown : ∀ k, (Value.slice qa j qc).ownBlock = some k -> pb + 1 <= k := fun k hk => (HI.out.2.2.2.1.own k hk).1
    have HOWN := hid hown
    have HND := hid (show ∀ k, (R k /\ k < w.heap.size) -> ¬ Dirt b pb (.slice qa j qc) k from fun k hk h => by
     rcases h with h | h | h
     ·exact HRB.out k hk.1 h
     ·have := HORD.out; have := HTB.out; omega
     ·have := hown _ h; have := HORD.out; have := HTB.out; omega)
    have HY := hid (And.intro hgS (And.intro k0 (And.intro k1 (And.intro k2 k3))))
    have HLT := hid hlt
    have n0 : 0 < n := by have := HN1.out; omega
    have j0 : (0 : Int) <= (j : Int) := by omega
    have jc : (j : Int) < (mm : Int) := by omega
    clear hcell hx hg hgs hgS hown k0 k1 k2 k3
    go_upto_region 27 with fail
    clear c0 c1 c2 c3 hlt
    obtain ⟨s, hs⟩ : ∃ s, s = (partsL f j (nextE l tk, bg + 1)).2 := ⟨_, rfl⟩
    obtain ⟨L, hL⟩ : ∃ L, L = (partsL f j (nextE l tk, bg + 1)).1 := ⟨_, rfl⟩
    have HSL := hid (And.intro hs hL)
    have hacc : RAccS wr b pb (.slice na ln nc) (.slice qa j qc) L s (f j s).2 (f j s).1 [] wr.drew := by
     rw [hs, hL]
     exact ⟨(Fr.refl _ _).drew, HI.out.2.1.fr ((Fr.refl (fun _ => False) _).drew) (fun h => h), box_kept HI.out.2.2.1 ((Fr.refl (fun _ => False) _).drew) (fun h => h), HI.out.2.2.2.1.fr ((Fr.refl (fun _ => False) _).drew) fid2⟩
    have HACC := hid hacc
    have hbnd : s.1 + costE (of 0) <= 100000 /\ s.2 + costE (of 0) <= 100000 := by
     rw [hs]
     exact HBD.out j HLT.out
    have HBND := hid hbnd
    have hLj : L.length = j := by rw [hL]; exact HLEN.out
    have HLJ := hid hLj
    have HFJ : Hid (f j s = buildE l (of 0) s) := hid (by rw [HF.out])
    have hpbw : pb < wr.heap.size := lt_of_block HI.out.2.2.1
    have HPW := hid hpbw
    clear hs hL hacc hbnd hLj hpbw
    refine wp_region_chain (by kernel_rfl) [some 125, some 126, some 127, some 128, some 129, some 130, some 131, some 132, some 133, some 134, some 135, none] rfl (by decide) (by intro d hd; simp at hd ⊢; omega)
     [7, 8, 9, 11] (RAccS wr b pb (.slice na ln nc) (.slice qa j qc) L s (f j s).2 (f j s).1)
     [.free (.pointer (some ⟨pb, 3, none⟩)), .free (.slice qa j qc), .free (.pointer (some ⟨b, 0, none⟩)), .free (.pointer (some ⟨tb, 3, none⟩)), .free (.slice (some ⟨g, off, none⟩) n c'), .free (.pointer (some ⟨g, off, none⟩)), .free (.agg #[.int .i64 ak, .int .i64 am, .int .i64 an, .slice aa ac acap]), .link none, .link none, .link none, .free (.pointer (some ⟨pb, 3, none⟩)), .link none]
     (by kernel_rfl) (by kernel_rfl) ?h0 ?step ?fin
    case h0 => exact HACC.out
    case step =>
     intro vals2
     simp only [frOfU, fillU, zsl]
     repeat' (first | exact AllOps.nil | refine AllOps.cons ?_ ?_)
     all_goals
      intro cvs wx hS he hu hlim K hK
      simp only [Act.put, zsl, zgl] at hK
      simp only [zml, Region.binds, forall_const, vmode_gc, Bool.false_eq_true, false_imp_iff, zgl, OpSort.val, Option.some.injEq, forall_eq', reduceCtorEq, implies_true, true_and, and_true] at he
      have HSX := hid hS
      clear hS
     all_goals first | (clear hlim hu; (try simp only [he] at hK ⊢); go_simp; exact hK) | skip
     ·have hl := HSX.out.loc (Nat.le_trans (hlim 2 9 rfl (by kernel_rfl)) (by omega))
      have e3 := cells_row hl 3 _ rfl
      clear hlim hu hl
      simp only [he] at hK ⊢
      go_simp
      exact hK
     ·have e3 := cells_row (box_kept HI.out.2.2.2.2.2 HSX.out.f (fun h => by
       have := HORD.out
       rcases h with h | h | h
       ·omega
       ·omega
       ·have := HOWN.out _ h; omega)) 3 _ rfl
      clear hlim hu
      simp only [he] at hK ⊢
      go_simp
      exact hK
     ·have e0 := cell_fr HSX.out.f HND.out HY.out.1 HY.out.2.1
      have e1 := cell_fr HSX.out.f HND.out HY.out.1 HY.out.2.2.1
      have e2 := cell_fr HSX.out.f HND.out HY.out.1 HY.out.2.2.2.1
      have e3 := cell_fr HSX.out.f HND.out HY.out.1 HY.out.2.2.2.2
      clear hlim hu
      simp only [he] at hK ⊢
      go_simp
      exact hK
     ·obtain rfl := hlim (0 : Nat) rfl
      have h1 := HSX.out
      simp only [List.take_zero, List.map_nil] at h1
      have H2 := hid h1
      clear hlim hu HSX h1
      simp only [he] at hK ⊢
      go_simp
      go_at_call 15
      refine (ih 0 (fun k => R k /\ k < w.heap.size) _ _ wx b s.1 s.2 (HKIDS.out 0 (by have := HN1.out; omega)) HBND.out.1 HBND.out.2 (RShows.fr H2.out.1 HND.out _ _ HX.out) (fun h => HRB.out b h.1 rfl) ((HN2.out.fr HI.out.1 (fun k hk e => HRB.out k hk.1 e)).fr H2.out.1 HND.out) H2.out.2.1).mono ?_
      rintro e1 wa ⟨v', rfl, hsv, fa, ba⟩
      have fe : buildE l (of 0) (s.1, s.2) = f j s := HFJ.out.symm
      rw [fe] at hsv ba
      refine hK _ _ (fun _ h => by cases h) ⟨H2.out.1.trans fa (fun i _ h => .inl h), ba, box_kept H2.out.2.2.1 fa (fun h => by have := HORD.out; omega), H2.out.2.2.2.fr fa (fun k hk h => by have := HORD.out; omega), VShows.mono (fun k _ hk => Nat.le_trans H2.out.1.size hk) _ _ hsv⟩
     ·obtain rfl := hlim (1 : Nat) rfl
      have h1 := HSX.out
      clear HSX hlim hu
      simp only [List.take_succ_cons, List.take_zero, List.map_cons, List.map_nil] at h1 hK
      obtain ⟨hf, hb, hl, hr, hs⟩ := h1
      obtain ⟨zn, zf, zs, za, zc, zcap, e4⟩ := hs.lit
      rw [e4] at hs
      have HH := hid (And.intro hf (And.intro hb (And.intro hl (And.intro hr hs))))
      clear hf hb hl hr hs
      simp only [he, e4] at hK ⊢
      go_simp
      have fa : Fr (fun _ => False) wx (wx.alloc (.cells #[.int .i64 zn, .float .f64 zf, .string zs, .slice za zc zcap] 58)) := (Fr.refl _ _).alloc _
      exact hK _ _ (fun _ h => by cases h) ⟨HH.out.1.trans fa (fun _ _ h => h.elim), HH.out.2.1.fr fa (fun h => h), box_kept HH.out.2.2.1 fa (fun h => h), HH.out.2.2.2.1.fr fa fid2, _, _, _, _, _, rfl, heap_alloc_new _ _, VShows.fr fa fid2 _ _ HH.out.2.2.2.2⟩
     ·obtain rfl := hlim (2 : Nat) rfl
      have h1 := HSX.out
      clear HSX hlim hu
      simp only [List.take_succ_cons, List.take_zero, List.map_cons, List.map_nil] at h1 hK
      obtain ⟨hf, hb, hl, hr, gg, y0, y1, y2, y3, e6, hgg, hss⟩ := h1
      rw [if_pos (by rfl)]
      have hsz := lt_of_block hl
      have hfs := hf.size
      have hord := HORD.out
      have hpw := HPW.out
      refine opWp_push (pv := (.slice qa j qc)) (l := L) (B := pb + 1) (X := fun _ => False) (D := vShown) (.tmp 126) (.tmp 133) 56 56 rfl Try.underlying56 Try.underlying56 Try.infoRV rfl (by decide) he hr gg e6 (news := [y0, y1, y2, y3]) hgg rfl (vshows_one hss) (by have := HLJ.out; omega) (by omega) (by omega) (fun k hk => hk.elim) (f j s).1 ⟨_, _, _, _, rfl, VShows.mono (fun k hk2 (hk : wr.heap.size <= k) => ⟨by omega, fun h => h, fun h => by have := (HI.out.2.2.2.1.own _ h).2; omega⟩) _ _ hss⟩ ?_
      intro v' w8 hrow f6 hv
      refine hK _ _ (fun _ h => by cases h) ⟨hf.trans f6 (fun i _ h => .inr (.inr h)), hb.fr f6 (fun h => by have := HOWN.out _ h; omega), box_kept hl f6 (fun h => by have := HOWN.out _ h; omega), hrow⟩
     ·obtain rfl := hlim (3 : Nat) rfl
      have h1 := HSX.out
      clear HSX hlim hu
      simp only [List.take_succ_cons, List.take_zero, List.map_cons, List.map_nil] at h1 hK
      obtain ⟨hf, hb, hl, hr⟩ := h1
      obtain ⟨xa, xn, xc, e7⟩ : ∃ xa xn xc, vals2 9 = .slice xa xn xc := by obtain ⟨a, c, e⟩ := hr.slice; exact ⟨a, _, c, e⟩
      have z2 : wx.frozen? ⟨pb, 3, none⟩ = false := by unfold RLoc at hl; simp [World.frozen?, hl]
      obtain ⟨e0, e1, e2, e3⟩ := cell_of_four hl
      have fs : Fr (fun k => k = pb) wx (wx.setCell ⟨pb, 3, none⟩ (vals2 9)) := Fr.set1 (Fr.refl _ _) 3 _
      have HG := hid (show RAccS wr b pb (.slice na ln nc) (.slice qa j qc) L s (f j s).2 (f j s).1 [vals2 7, vals2 8, vals2 9, undef] (wx.setCell ⟨pb, 3, none⟩ (vals2 9)) from
       ⟨hf.trans fs (fun i _ h => .inr (.inl h)), hb.fr fs (fun h => by have := HORD.out; omega), setCell_row 3 _ hl, hr.fr fs (fun k hk h => by omega)⟩)
      clear hf hb hl hr fs
      rw [e7] at HG
      simp only [he, e7] at hK ⊢
      go_simp
      exact hK undef _ (fun _ h => by cases h) HG.out
    case fin =>
     intro vals2 w7 hS hV
     clear hV
     simp only [List.map_cons, List.map_nil] at hS
     obtain ⟨hf, hb, hl, hr⟩ := hS
     have fw : Fr (fun k => k = b) w w7 := HI.out.1.trans hf (fun i hi h => by
      have := HORD.out
      have := HTB.out
      rcases h with h | h | h
      ·exact h
      ·omega
      ·have := HOWN.out _ h; omega)
     have hnot : ∀ i, i = rb \/ i = tb -> ¬ Dirt b pb (.slice qa j qc) i := fun i hi h => by
      have := HORD.out
      rcases h with h | h | h
      ·omega
      ·omega
      ·have := HOWN.out _ h; omega
     have hrbk := box_kept HI.out.2.2.2.2.1 hf (hnot _ (.inl rfl))
     have htbk := box_kept HI.out.2.2.2.2.2 hf (hnot _ (.inr rfl))
     have hps : partsL f (j + 1) (nextE l tk, bg + 1) = (L ++ [(f j s).1], (f j s).2) := by
      rw [HSL.out.1, HSL.out.2]; rfl
     have HS2 := hid (show Fr (fun k => k = b) w w7 /\ MBox w7 b (.slice na ln nc) (partsL f (j + 1) (nextE l tk, bg + 1)).2.1 (partsL f (j + 1) (nextE l tk, bg + 1)).2.2 /\ RLoc w7 pb (vals2 9) /\ RRow w7 pb (vals2 9) (partsL f (j + 1) (nextE l tk, bg + 1)).1 /\ w7.heap[rb]? = some (.cells #[.int .i64 0, .float .f64 0, .string ⟨#[]⟩, .slice none 0 0] 58 (0, 0)) /\ w7.heap[tb]? = some (.cells #[.int .i64 kz, .int .i64 (mm : Int), .int .i64 (nn : Nat), .slice (some ⟨g, off, none⟩) n c'] 54 (0, 0)) from by
      rw [hps]; exact ⟨fw, hb, hl, hr, hrbk, htbk⟩)
     clear hf hb hl hr fw hrbk htbk hps hnot
     simp only [frOfU, fillU, zsl]
     go_wp2
     go_roundg (mm - (j + 1))
     case measure => have := HLT.out; omega
     case rel => exact ⟨j + 1, vals2 9, HLT.out, rfl, by go_num, HS2⟩
   ·obtain rfl : j = mm := by omega
    have q6 := HI.out.2.2.2.2.2
    have p6 := HI.out.2.2.2.2.1
    have v6 := HI.out.2.2.1
    unfold RLoc at v6
    have c0 := cells_row q6 0 _ rfl
    have t0 := cells_row v6 0 _ rfl
    have u0 : wr.frozen? ⟨pb, 0, none⟩ = false := by simp [World.frozen?, v6]
    have s0 := cells_row p6 0 _ rfl
    have y0 : wr.frozen? ⟨rb, 0, none⟩ = false := by simp [World.frozen?, p6]
    have c1 := cells_row q6 1 _ rfl
    have t1 := cells_row v6 1 _ rfl
    have u1 : wr.frozen? ⟨pb, 1, none⟩ = false := by simp [World.frozen?, v6]
    have s1 := cells_row p6 1 _ rfl
    have y1 : wr.frozen? ⟨rb, 1, none⟩ = false := by simp [World.frozen?, p6]
    have c2 := cells_row q6 2 _ rfl
    have t2 := cells_row v6 2 _ rfl
    have u2 : wr.frozen? ⟨pb, 2, none⟩ = false := by simp [World.frozen?, v6]
    have s2 := cells_row p6 2 _ rfl
    have y2 : wr.frozen? ⟨rb, 2, none⟩ = false := by simp [World.frozen?, p6]
    have c3 := cells_row q6 3 _ rfl
    have t3 := cells_row v6 3 _ rfl
    have u3 : wr.frozen? ⟨pb, 3, none⟩ = false := by simp [World.frozen?, v6]
    have s3 := cells_row p6 3 _ rfl
    have y3 : wr.frozen? ⟨rb, 3, none⟩ = false := by simp [World.frozen?, p6]
    clear q6 p6 v6
    go_wp2
    refine bodyPost_ret (results_cell_row rfl _ _ rb 58 _ _ _ rfl (store_four HI.out.2.2.2.2.1) Try.underlying58 rfl (by kernel_rfl)) rfl ?_
    exact rrecord_done HI.out.2.2.2.2.1 HI.out.1 HI.out.2.1 (by have := HORD.out; omega) (by have := HORD.out; have := HTB.out; omega) (by have := HORD.out; omega) _ HLEN.out.symm HI.out.2.2.2.1 (by have := HLEN.out; omega) HE.out
 ·have dm : decide ((mm : Int) < (x : Int)) = false := by simp; omega
  obtain rfl : x = cc := by omega
  have hc3 : x <= 3 := by omega
  clear hcx
  go_wp2
  clear c0 c1 c2 c3 dm hmx
  have HN2 := hid (HN.out.mono (S := fun k => R k /\ k < w.heap.size) (fun k hk h => ⟨h, hk⟩))
  obtain ⟨f, hf⟩ : ∃ f : Nat -> Nat × Nat -> VT × (Nat × Nat), f = (fun _ q => buildE l (of 0) q) := ⟨_, rfl⟩
  have HF := hid hf
  have HE : Hid (buildE l (.mk k (mm : Int) ns n of) (tk, bg) = (listV (partsL f x (nextE l tk, bg + 1)).1, (partsL f x (nextE l tk, bg + 1)).2)) := hid (by
   have hk := HK.out.1
   subst hk
   rw [hf]
   rw [buildE_seq l _ ns n of (tk, bg) (by have := HBG.out; omega)]; simp only [HCC.out])
  have HBD : Hid (∀ j, j < x -> (partsL f j (nextE l tk, bg + 1)).2.1 + costE (of 0) <= 100000 /\ (partsL f j (nextE l tk, bg + 1)).2.2 + costE (of 0) <= 100000) := hid (fun j hj => by
   have h1 := partsL_le f (fun _ => costE (of 0)) x (fun i s hi => by rw [hf]; exact (build_le l (of 0) (HKIDS.out 0 (by have := HN1.out; omega)) s).1) (nextE l tk, bg + 1) j (by omega)
   have h2 : sumTo (fun _ => costE (of 0)) j = j * costE (of 0) := by
    clear hj h1
    induction j with
    | zero => simp [sumTo]
    | succ j ihj => rw [sumTo_succ, ihj, Nat.succ_mul]
   have h3 := HCST.out
   have h4 : costE (.mk k (mm : Int) ns n of) = 1 + 3 * costE (of 0) := by rw [HK.out.1]; exact cost_seq _ ns n of
   have h5 := nextE_le l tk
   have h6 : j * costE (of 0) + costE (of 0) <= 3 * costE (of 0) := by
    rw [<- Nat.succ_mul]
    exact Nat.mul_le_mul_right _ (by omega)
   simp only at h1
   omega)
  clear hf
  generalize hln : l.length = ln at *
  clear hln
  go_loopg [9] x (fun G ui wr => ∃ (j : Nat) (po : Value), j <= x /\ G = x - j /\ ui = .int .i64 j /\ Hid (Fr (fun k => k = b) w wr /\ MBox wr b (.slice na ln nc) (partsL f j (nextE l tk, bg + 1)).2.1 (partsL f j (nextE l tk, bg + 1)).2.2 /\ RLoc wr pb po /\ RRow wr pb po (partsL f j (nextE l tk, bg + 1)).1 /\ wr.heap[rb]? = some (.cells #[.int .i64 0, .float .f64 0, .string ⟨#[]⟩, .slice none 0 0] 58 (0, 0)) /\ wr.heap[tb]? = some (.cells #[.int .i64 kz, .int .i64 (mm : Int), .int .i64 (nn : Nat), .slice a' n c'] 54 (0, 0))))
  case atStart => exact ⟨0, .slice none 0 0, Nat.zero_le _, rfl, by go_num, hid ⟨H2.out.2.2.2.1, H2.out.2.2.2.2, H2.out.2.2.1, ItRow.nil _ _ _ _ _ _, H2.out.2.1, H2.out.1⟩⟩
  case round =>
   obtain ⟨j, po, hj, rfl, rfl, HI⟩ := hrel
   have hlen := partsL_length f j (nextE l tk, bg + 1)
   obtain ⟨qa, qc, hpo⟩ : ∃ qa qc, po = .slice qa j qc := by
    obtain ⟨qa, qc, e⟩ := HI.out.2.2.2.1.slice
    rw [hlen] at e
    exact ⟨qa, qc, e⟩
   subst hpo
   have HLEN := hid hlen
   clear hlen
   have qr := HI.out.2.2.2.2.2
   have c0 := cells_row qr 0 _ rfl
   have c1 := cells_row qr 1 _ rfl
   have c2 := cells_row qr 2 _ rfl
   have c3 := cells_row qr 3 _ rfl
   clear qr
   by_cases hlt : j < x
   ·rcases HRK.out with hz | ⟨hcap, g, off, hg, rfl, hcell⟩
    ·have := HN1.out; omega
    obtain ⟨x0, x1, x2, x3, k0, k1, k2, k3, hx⟩ := hcell 0 (by have := HN1.out; omega)
    obtain ⟨ak, am, an, aa, ac, acap, ex⟩ := hx.lit
    simp only [Value.agg.injEq, Array.mk.injEq, List.cons.injEq, and_true] at ex
    obtain ⟨rfl, rfl, rfl, rfl⟩ := ex
    simp only [Nat.zero_mul, Nat.add_zero] at k0 k1 k2 k3
    have hgs : g < w.heap.size := World.block_lt_of_cell? w _ k0
    have hgS : R g /\ g < w.heap.size := ⟨hg, hgs⟩
    have k0 := cell_fr HI.out.1 HRB.out hg k0
    have k1 := cell_fr HI.out.1 HRB.out hg k1
    have k2 := cell_fr HI.out.1 HRB.out hg k2
    have k3 := cell_fr HI.out.1 HRB.out hg k3
    have HX := hid (RShows.fr HI.out.1 (fun k hk e => HRB.out k hk.1 e) _ _ (RShows.mono (S := fun k => R k /\ k < w.heap.size) (fun k hk h => ⟨h, hk⟩) _ _ hx))
    have hown : ∀ k, (Value.slice qa j qc).ownBlock = some k -> pb + 1 <= k := fun k hk => (HI.out.2.2.2.1.own k hk).1
    have HOWN := hid hown
    have HND := hid (show ∀ k, (R k /\ k < w.heap.size) -> ¬ Dirt b pb (.slice qa j qc) k from fun k hk h => by
     rcases h with h | h | h
     ·exact HRB.out k hk.1 h
     ·have := HORD.out; have := HTB.out; omega
     ·have := hown _ h; have := HORD.out; have := HTB.out; omega)
    have HY := hid (And.intro hgS (And.intro k0 (And.intro k1 (And.intro k2 k3))))
    have HLT := hid hlt
    have n0 : 0 < n := by have := HN1.out; omega
    have j0 : (0 : Int) <= (j : Int) := by omega
    have jc : (j : Int) < (x : Int) := by omega
    clear hcell hx hg hgs hgS hown k0 k1 k2 k3
    go_upto_region 27 with fail
    clear c0 c1 c2 c3 hlt
    obtain ⟨s, hs⟩ : ∃ s, s = (partsL f j (nextE l tk, bg + 1)).2 := ⟨_, rfl⟩
    obtain ⟨L, hL⟩ : ∃ L, L = (partsL f j (nextE l tk, bg + 1)).1 := ⟨_, rfl⟩
    have HSL := hid (And.intro hs hL)
    have hacc : RAccS wr b pb (.slice na ln nc) (.slice qa j qc) L s (f j s).2 (f j s).1 [] wr.drew := by
     rw [hs, hL]
     exact ⟨(Fr.refl _ _).drew, HI.out.2.1.fr ((Fr.refl (fun _ => False) _).drew) (fun h => h), box_kept HI.out.2.2.1 ((Fr.refl (fun _ => False) _).drew) (fun h => h), HI.out.2.2.2.1.fr ((Fr.refl (fun _ => False) _).drew) fid2⟩
    have HACC := hid hacc
    have hbnd : s.1 + costE (of 0) <= 100000 /\ s.2 + costE (of 0) <= 100000 := by
     rw [hs]
     exact HBD.out j HLT.out
    have HBND := hid hbnd
    have hLj : L.length = j := by rw [hL]; exact HLEN.out
    have HLJ := hid hLj
    have HFJ : Hid (f j s = buildE l (of 0) s) := hid (by rw [HF.out])
    have hpbw : pb < wr.heap.size := lt_of_block HI.out.2.2.1
    have HPW := hid hpbw
    clear hs hL hacc hbnd hLj hpbw
    refine wp_region_chain (by kernel_rfl) [some 125, some 126, some 127, some 128, some 129, some 130, some 131, some 132, some 133, some 134, some 135, none] rfl (by decide) (by intro d hd; simp at hd ⊢; omega)
     [7, 8, 9, 11] (RAccS wr b pb (.slice na ln nc) (.slice qa j qc) L s (f j s).2 (f j s).1)
     [.free (.pointer (some ⟨pb, 3, none⟩)), .free (.slice qa j qc), .free (.pointer (some ⟨b, 0, none⟩)), .free (.pointer (some ⟨tb, 3, none⟩)), .free (.slice (some ⟨g, off, none⟩) n c'), .free (.pointer (some ⟨g, off, none⟩)), .free (.agg #[.int .i64 ak, .int .i64 am, .int .i64 an, .slice aa ac acap]), .link none, .link none, .link none, .free (.pointer (some ⟨pb, 3, none⟩)), .link none]
     (by kernel_rfl) (by kernel_rfl) ?h0 ?step ?fin
    case h0 => exact HACC.out
    case step =>
     intro vals2
     simp only [frOfU, fillU, zsl]
     repeat' (first | exact AllOps.nil | refine AllOps.cons ?_ ?_)
     all_goals
      intro cvs wx hS he hu hlim K hK
      simp only [Act.put, zsl, zgl] at hK
      simp only [zml, Region.binds, forall_const, vmode_gc, Bool.false_eq_true, false_imp_iff, zgl, OpSort.val, Option.some.injEq, forall_eq', reduceCtorEq, implies_true, true_and, and_true] at he
      have HSX := hid hS
      clear hS
     all_goals first | (clear hlim hu; (try simp only [he] at hK ⊢); go_simp; exact hK) | skip
     ·have hl := HSX.out.loc (Nat.le_trans (hlim 2 9 rfl (by kernel_rfl)) (by omega))
      have e3 := cells_row hl 3 _ rfl
      clear hlim hu hl
      simp only [he] at hK ⊢
      go_simp
      exact hK
     ·have e3 := cells_row (box_kept HI.out.2.2.2.2.2 HSX.out.f (fun h => by
       have := HORD.out
       rcases h with h | h | h
       ·omega
       ·omega
       ·have := HOWN.out _ h; omega)) 3 _ rfl
      clear hlim hu
      simp only [he] at hK ⊢
      go_simp
      exact hK
     ·have e0 := cell_fr HSX.out.f HND.out HY.out.1 HY.out.2.1
      have e1 := cell_fr HSX.out.f HND.out HY.out.1 HY.out.2.2.1
      have e2 := cell_fr HSX.out.f HND.out HY.out.1 HY.out.2.2.2.1
      have e3 := cell_fr HSX.out.f HND.out HY.out.1 HY.out.2.2.2.2
      clear hlim hu
      simp only [he] at hK ⊢
      go_simp
      exact hK
     ·obtain rfl := hlim (0 : Nat) rfl
      have h1 := HSX.out
      simp only [List.take_zero, List.map_nil] at h1
      have H2 := hid h1
      clear hlim hu HSX h1
      simp only [he] at hK ⊢
      go_simp
      go_at_call 15
      refine (ih 0 (fun k => R k /\ k < w.heap.size) _ _ wx b s.1 s.2 (HKIDS.out 0 (by have := HN1.out; omega)) HBND.out.1 HBND.out.2 (RShows.fr H2.out.1 HND.out _ _ HX.out) (fun h => HRB.out b h.1 rfl) ((HN2.out.fr HI.out.1 (fun k hk e => HRB.out k hk.1 e)).fr H2.out.1 HND.out) H2.out.2.1).mono ?_
      rintro e1 wa ⟨v', rfl, hsv, fa, ba⟩
      have fe : buildE l (of 0) (s.1, s.2) = f j s := HFJ.out.symm
      rw [fe] at hsv ba
      refine hK _ _ (fun _ h => by cases h) ⟨H2.out.1.trans fa (fun i _ h => .inl h), ba, box_kept H2.out.2.2.1 fa (fun h => by have := HORD.out; omega), H2.out.2.2.2.fr fa (fun k hk h => by have := HORD.out; omega), VShows.mono (fun k _ hk => Nat.le_trans H2.out.1.size hk) _ _ hsv⟩
     ·obtain rfl := hlim (1 : Nat) rfl
      have h1 := HSX.out
      clear HSX hlim hu
      simp only [List.take_succ_cons, List.take_zero, List.map_cons, List.map_nil] at h1 hK
      obtain ⟨hf, hb, hl, hr, hs⟩ := h1
      obtain ⟨zn, zf, zs, za, zc, zcap, e4⟩ := hs.lit
      rw [e4] at hs
      have HH := hid (And.intro hf (And.intro hb (And.intro hl (And.intro hr hs))))
      clear hf hb hl hr hs
      simp only [he, e4] at hK ⊢
      go_simp
      have fa : Fr (fun _ => False) wx (wx.alloc (.cells #[.int .i64 zn, .float .f64 zf, .string zs, .slice za zc zcap] 58)) := (Fr.refl _ _).alloc _
      exact hK _ _ (fun _ h => by cases h) ⟨HH.out.1.trans fa (fun _ _ h => h.elim), HH.out.2.1.fr fa (fun h => h), box_kept HH.out.2.2.1 fa (fun h => h), HH.out.2.2.2.1.fr fa fid2, _, _, _, _, _, rfl, heap_alloc_new _ _, VShows.fr fa fid2 _ _ HH.out.2.2.2.2⟩
     ·obtain rfl := hlim (2 : Nat) rfl
      have h1 := HSX.out
      clear HSX hlim hu
      simp only [List.take_succ_cons, List.take_zero, List.map_cons, List.map_nil] at h1 hK
      obtain ⟨hf, hb, hl, hr, gg, y0, y1, y2, y3, e6, hgg, hss⟩ := h1
      rw [if_pos (by rfl)]
      have hsz := lt_of_block hl
      have hfs := hf.size
      have hord := HORD.out
      have hpw := HPW.out
      refine opWp_push (pv := (.slice qa j qc)) (l := L) (B := pb + 1) (X := fun _ => False) (D := vShown) (.tmp 126) (.tmp 133) 56 56 rfl Try.underlying56 Try.underlying56 Try.infoRV rfl (by decide) he hr gg e6 (news := [y0, y1, y2, y3]) hgg rfl (vshows_one hss) (by have := HLJ.out; omega) (by omega) (by omega) (fun k hk => hk.elim) (f j s).1 ⟨_, _, _, _, rfl, VShows.mono (fun k hk2 (hk : wr.heap.size <= k) => ⟨by omega, fun h => h, fun h => by have := (HI.out.2.2.2.1.own _ h).2; omega⟩) _ _ hss⟩ ?_
      intro v' w8 hrow f6 hv
      refine hK _ _ (fun _ h => by cases h) ⟨hf.trans f6 (fun i _ h => .inr (.inr h)), hb.fr f6 (fun h => by have := HOWN.out _ h; omega), box_kept hl f6 (fun h => by have := HOWN.out _ h; omega), hrow⟩
     ·obtain rfl := hlim (3 : Nat) rfl
      have h1 := HSX.out
      clear HSX hlim hu
      simp only [List.take_succ_cons, List.take_zero, List.map_cons, List.map_nil] at h1 hK
      obtain ⟨hf, hb, hl, hr⟩ := h1
      obtain ⟨xa, xn, xc, e7⟩ : ∃ xa xn xc, vals2 9 = .slice xa xn xc := by obtain ⟨a, c, e⟩ := hr.slice; exact ⟨a, _, c, e⟩
      have z2 : wx.frozen? ⟨pb, 3, none⟩ = false := by unfold RLoc at hl; simp [World.frozen?, hl]
      obtain ⟨e0, e1, e2, e3⟩ := cell_of_four hl
      have fs : Fr (fun k => k = pb) wx (wx.setCell ⟨pb, 3, none⟩ (vals2 9)) := Fr.set1 (Fr.refl _ _) 3 _
      have HG := hid (show RAccS wr b pb (.slice na ln nc) (.slice qa j qc) L s (f j s).2 (f j s).1 [vals2 7, vals2 8, vals2 9, undef] (wx.setCell ⟨pb, 3, none⟩ (vals2 9)) from
       ⟨hf.trans fs (fun i _ h => .inr (.inl h)), hb.fr fs (fun h => by have := HORD.out; omega), setCell_row 3 _ hl, hr.fr fs (fun k hk h => by omega)⟩)
      clear hf hb hl hr fs
      rw [e7] at HG
      simp only [he, e7] at hK ⊢
      go_simp
      exact hK undef _ (fun _ h => by cases h) HG.out
    case fin =>
     intro vals2 w7 hS hV
     clear hV
     simp only [List.map_cons, List.map_nil] at hS
     obtain ⟨hf, hb, hl, hr⟩ := hS
     have fw : Fr (fun k => k = b) w w7 := HI.out.1.trans hf (fun i hi h => by
      have := HORD.out
      have := HTB.out
      rcases h with h | h | h
      ·exact h
      ·omega
      ·have := HOWN.out _ h; omega)
     have hnot : ∀ i, i = rb \/ i = tb -> ¬ Dirt b pb (.slice qa j qc) i := fun i hi h => by
      have := HORD.out
      rcases h with h | h | h
      ·omega
      ·omega
      ·have := HOWN.out _ h; omega
     have hrbk := box_kept HI.out.2.2.2.2.1 hf (hnot _ (.inl rfl))
     have htbk := box_kept HI.out.2.2.2.2.2 hf (hnot _ (.inr rfl))
     have hps : partsL f (j + 1) (nextE l tk, bg + 1) = (L ++ [(f j s).1], (f j s).2) := by
      rw [HSL.out.1, HSL.out.2]; rfl
     have HS2 := hid (show Fr (fun k => k = b) w w7 /\ MBox w7 b (.slice na ln nc) (partsL f (j + 1) (nextE l tk, bg + 1)).2.1 (partsL f (j + 1) (nextE l tk, bg + 1)).2.2 /\ RLoc w7 pb (vals2 9) /\ RRow w7 pb (vals2 9) (partsL f (j + 1) (nextE l tk, bg + 1)).1 /\ w7.heap[rb]? = some (.cells #[.int .i64 0, .float .f64 0, .string ⟨#[]⟩, .slice none 0 0] 58 (0, 0)) /\ w7.heap[tb]? = some (.cells #[.int .i64 kz, .int .i64 (mm : Int), .int .i64 (nn : Nat), .slice (some ⟨g, off, none⟩) n c'] 54 (0, 0)) from by
      rw [hps]; exact ⟨fw, hb, hl, hr, hrbk, htbk⟩)
     clear hf hb hl hr fw hrbk htbk hps hnot
     simp only [frOfU, fillU, zsl]
     go_wp2
     go_roundg (x - (j + 1))
     case measure => have := HLT.out; omega
     case rel => exact ⟨j + 1, vals2 9, HLT.out, rfl, by go_num, HS2⟩
   ·obtain rfl : j = x := by omega
    have q6 := HI.out.2.2.2.2.2
    have p6 := HI.out.2.2.2.2.1
    have v6 := HI.out.2.2.1
    unfold RLoc at v6
    have c0 := cells_row q6 0 _ rfl
    have t0 := cells_row v6 0 _ rfl
    have u0 : wr.frozen? ⟨pb, 0, none⟩ = false := by simp [World.frozen?, v6]
    have s0 := cells_row p6 0 _ rfl
    have y0 : wr.frozen? ⟨rb, 0, none⟩ = false := by simp [World.frozen?, p6]
    have c1 := cells_row q6 1 _ rfl
    have t1 := cells_row v6 1 _ rfl
    have u1 : wr.frozen? ⟨pb, 1, none⟩ = false := by simp [World.frozen?, v6]
    have s1 := cells_row p6 1 _ rfl
    have y1 : wr.frozen? ⟨rb, 1, none⟩ = false := by simp [World.frozen?, p6]
    have c2 := cells_row q6 2 _ rfl
    have t2 := cells_row v6 2 _ rfl
    have u2 : wr.frozen? ⟨pb, 2, none⟩ = false := by simp [World.frozen?, v6]
    have s2 := cells_row p6 2 _ rfl
    have y2 : wr.frozen? ⟨rb, 2, none⟩ = false := by simp [World.frozen?, p6]
    have c3 := cells_row q6 3 _ rfl
    have t3 := cells_row v6 3 _ rfl
    have u3 : wr.frozen? ⟨pb, 3, none⟩ = false := by simp [World.frozen?, v6]
    have s3 := cells_row p6 3 _ rfl
    have y3 : wr.frozen? ⟨rb, 3, none⟩ = false := by simp [World.frozen?, p6]
    clear q6 p6 v6
    go_wp2
    refine bodyPost_ret (results_cell_row rfl _ _ rb 58 _ _ _ rfl (store_four HI.out.2.2.2.2.1) Try.underlying58 rfl (by kernel_rfl)) rfl ?_
    exact rrecord_done HI.out.2.2.2.2.1 HI.out.1 HI.out.2.1 (by have := HORD.out; omega) (by have := HORD.out; have := HTB.out; omega) (by have := HORD.out; omega) _ HLEN.out.symm HI.out.2.2.2.1 (by have := HLEN.out; omega) HE.out
end
section
attribute [local go_sem] run_store_float

theorem float_nought : floatOfInt .f64 0 = 0 := by decide +kernel

set_option maxRecDepth 100000 in
theorem rbuild_k3 (l : List Int) (k : Nat) (m : Int) (ns : List Txt) (n : Nat) (of : Nat -> KT) (hk0 : k = 3) : RBuildAt l (.mk k m ns n of) := by
 intro R v nv w b tk bg hgood htk hbg hsh hRb hnum hbox
 obtain ⟨⟨hn12, hown⟩, hkids⟩ := hgood
 obtain ⟨hk8, hmost, hone, hparts, hnames, hnone⟩ := own_facts hown
 have hcost : 1 <= costE (.mk k m ns n of) := by unfold costE; omega
 have htk' : tk <= 100000 := by omega
 have hbg' : bg + 1 <= 100000 := by omega
 obtain ⟨_, _, _, _, _, a', c', e1, rfl, hrb, hrk⟩ := rshows_open hsh
 cases e1
 obtain ⟨nn, hnn⟩ : ∃ nn, ns.length = nn := ⟨_, rfl⟩
 have HRK := hid hrk
 have HRB := hid (show ∀ i, R i -> ¬ i = b from fun i hi e => hRb (by rw [<- e]; exact hi))
 have HN := hid hnum
 have HBX := hid hbox
 have hbl : b < w.heap.size := lt_of_block hbox
 have HBL := hid hbl
 obtain ⟨na, nc, rfl⟩ := hnum.shape
 unfold MBox at hbox
 have r0 := cells_row hbox 2 _ rfl
 have z0 : w.frozen? ⟨b, 2, none⟩ = false := by simp [World.frozen?, hbox]
 have n1 : b ≠ w.heap.size := by omega
 have n2 : w.heap.size ≠ b := by omega
 have n3 : b ≠ w.heap.size + 1 := by omega
 have n4 : w.heap.size + 1 ≠ b := by omega
 have HK := hid (And.intro hk0 (And.intro hmost (And.intro hone (And.intro hparts (And.intro hnames (And.intro hnone hnn))))))
 have HKIDS := hid hkids
 have HCST := hid (And.intro htk hbg)
 
 rw [hnn] at hrb ⊢
 obtain ⟨kz, hkz⟩ : ∃ kz : Int, (k : Int) = kz := ⟨_, rfl⟩
 rw [hkz]
 have e0 : (kz == 0) = false := by simp; omega
 have e1 : (kz == 1) = false := by simp; omega
 have e2 : (kz == 2) = false := by simp; omega
 have e3 : (kz == 3) = true := by simp; omega
 have e4 : (kz == 4) = false := by simp; omega
 have e5 : (kz == 5) = false := by simp; omega
 have e6 : (kz == 6) = false := by simp; omega
 have e7 : (kz == 7) = false := by simp; omega
 have e8 : (kz == 8) = false := by simp; omega
 clear hsh hrk hRb hnum hbox hk0 hk8 hmost hone hparts hnames hnone hkids htk hbg hkz hown hcost hrb hnn
 obtain ⟨w1, hw1⟩ : ∃ w1, w1 = (((w.setCell ⟨b, 2, none⟩ (.int .i64 ((bg : Int) + 1))).alloc (.cells #[.int .i64 kz, .int .i64 m, .int .i64 (nn : Nat), .slice a' n c'] 54)).alloc (.cells #[.int .i64 0, .float .f64 0, .string ⟨#[]⟩, .slice none 0 0] 58)).alloc (.cells #[.int .i64 0, .float .f64 0, .string ⟨#[]⟩, .slice none 0 0] 58) := ⟨_, rfl⟩
 obtain ⟨q1, p1, v1, b1, f1⟩ := rbuild_box kz m nn a' n c' HBX.out hw1
 go_enter Try.func15, Try.ntmps15
 go_upto_region 3 with fail
 rw [<- hw1]
 obtain ⟨tb, htb⟩ : ∃ tb, w.heap.size = tb := ⟨_, rfl⟩
 rw [htb] at q1 p1 v1 hbl n1 n2 n3 n4 ⊢
 have HTB := hid htb
 clear hw1 htb r0 z0 n1 n2 n3 n4 hbl
 try simp only [Nat.add_assoc, Nat.reduceAdd]
 obtain ⟨rb, hrb⟩ : ∃ rb, tb + 1 = rb := ⟨_, rfl⟩
 obtain ⟨pb, hpb⟩ : ∃ pb, tb + 2 = pb := ⟨_, rfl⟩
 rw [hrb] at p1 ⊢
 rw [hpb] at v1 ⊢
 have HORD := hid (show b < tb /\ tb < rb /\ rb < pb from ⟨by have := HBL.out; have := HTB.out; omega, by omega, by omega⟩)
 have m1 : tb ≠ pb := by omega
 have m2 : rb ≠ pb := by omega
 have m3 : pb ≠ rb := by omega
 have m4 : tb ≠ rb := by omega
 clear hrb hpb
 have H1 := hid (And.intro q1 (And.intro p1 (And.intro v1 (And.intro b1 f1))))
 have c0 := cells_row q1 0 _ rfl
 have c1 := cells_row q1 1 _ rfl
 have c2 := cells_row q1 2 _ rfl
 have c3 := cells_row q1 3 _ rfl
 clear q1 p1 v1 b1 f1
 have r0 := cells_row H1.out.2.2.2.1 0 _ rfl
 have r1 := cells_row H1.out.2.2.2.1 1 _ rfl
 have z1 : w1.frozen? ⟨b, 1, none⟩ = false := by have h := H1.out.2.2.2.1; unfold MBox at h; simp [World.frozen?, h]
 have HNU := hid (HN.out.fr H1.out.2.2.2.2 HRB.out)
 have q2 := H1.out.1
 have p2 := H1.out.2.1
 have v2 := H1.out.2.2.1
 have c0 := cells_row q2 0 _ rfl
 have t0 := cells_row v2 0 _ rfl
 have u0 : w1.frozen? ⟨pb, 0, none⟩ = false := by simp [World.frozen?, v2]
 have s0 := cells_row p2 0 _ rfl
 have y0 : w1.frozen? ⟨rb, 0, none⟩ = false := by simp [World.frozen?, p2]
 have c1 := cells_row q2 1 _ rfl
 have t1 := cells_row v2 1 _ rfl
 have u1 : w1.frozen? ⟨pb, 1, none⟩ = false := by simp [World.frozen?, v2]
 have s1 := cells_row p2 1 _ rfl
 have y1 : w1.frozen? ⟨rb, 1, none⟩ = false := by simp [World.frozen?, p2]
 have c2 := cells_row q2 2 _ rfl
 have t2 := cells_row v2 2 _ rfl
 have u2 : w1.frozen? ⟨pb, 2, none⟩ = false := by simp [World.frozen?, v2]
 have s2 := cells_row p2 2 _ rfl
 have y2 : w1.frozen? ⟨rb, 2, none⟩ = false := by simp [World.frozen?, p2]
 have c3 := cells_row q2 3 _ rfl
 have t3 := cells_row v2 3 _ rfl
 have u3 : w1.frozen? ⟨pb, 3, none⟩ = false := by simp [World.frozen?, v2]
 have s3 := cells_row p2 3 _ rfl
 have y3 : w1.frozen? ⟨rb, 3, none⟩ = false := by simp [World.frozen?, p2]
 clear q2 p2 v2
 have o1 : b ≠ pb := by have := HORD.out; omega
 have o2 : pb ≠ b := by have := HORD.out; omega
 have o3 : b ≠ tb := by have := HORD.out; omega
 have o4 : tb ≠ b := by have := HORD.out; omega
 have o5 : b ≠ rb := by have := HORD.out; omega
 have o6 : rb ≠ b := by have := HORD.out; omega
 generalize hln : l.length = ln at *
 have HLN := hid hln
 by_cases h0 : ln = 0
 ·subst h0
  have hl0 : l = [] := List.eq_nil_of_length_eq_zero hln
  have HL0 := hid hl0
  clear hln hl0
  go_wp2
  refine bodyPost_ret (results_cell_row rfl _ _ rb 58 _ _ _ rfl (store_four H1.out.2.1) Try.underlying58 rfl (by kernel_rfl)) rfl ?_
  refine rbuild_done (s := []) (of := fun _ => .nil) (tk2 := tk) (bg2 := bg + 1) H1.out.2.1 H1.out.2.2.2.2 H1.out.2.2.2.1 (by have := HORD.out; omega) (by have := HORD.out; have := HTB.out; omega) (by
   have hk := HK.out.1
   subst hk
   rw [HL0.out]
   unfold buildE
   simp [numE, nextE, float_nought]) (by unfold VB maxLen; simp) (.inl rfl)
 ·have l1 : 0 < ln := by omega
  obtain ⟨q, hq⟩ : ∃ q, tk % ln = q := ⟨_, rfl⟩
  have hqn : q < ln := by rw [<- hq]; exact Nat.mod_lt _ (by omega)
  have e1 : (tk : Int).tmod (ln : Int) = (q : Int) := by rw [<- hq]; exact (Int.ofNat_tmod tk ln).symm
  have e2' : (tk : Int) % (ln : Int) = (q : Int) := by rw [<- hq]; omega
  have hne : l ≠ [] := by intro e; rw [e] at hln; exact h0 hln.symm
  have x0 : l[q]? = some (numE l tk) := by
   unfold numE
   rw [if_neg hne, hln, hq, List.getD, List.getElem?_eq_getElem (by omega)]
   rfl
  obtain ⟨nb, ni, nx⟩ := HNU.out
  have hin := numE_in HN.out tk
  have nx2 : nextE l tk = tk + 1 := by unfold nextE; rw [if_neg hne]
  have NX := hid nx2
  rcases nx with ⟨rfl, _⟩ | ⟨g, off, cap, hg, e, hle, hc⟩
  ·exact absurd rfl hne
  simp only [Value.slice.injEq] at e
  obtain ⟨rfl, -, rfl⟩ := e
  have y0' := hc q _ x0
  have HGW := hid (show g < w.heap.size from by
   obtain ⟨_, _, h3 | ⟨g', off', cap', hg', e', _, hc'⟩⟩ := HN.out
   ·exact absurd h3.1 hne
   ·simp only [Value.slice.injEq, Option.some.injEq, Addr.mk.injEq] at e'
    obtain ⟨⟨rfl, rfl, _⟩, _⟩ := e'
    exact World.block_lt_of_cell? w _ (hc' q _ x0))
  obtain ⟨x, hx⟩ : ∃ x, numE l tk = x := ⟨_, rfl⟩
  rw [hx] at y0' hin
  have HX := hid hx
  have HFL := hid (float_of_int x)
  have hn0 : ¬ (ln : Int) = 0 := by omega
  have hn1 : ((ln : Int) == 0) = false := by simpa using h0
  have q0 : 0 <= (q : Int) := by omega
  have q1 : (q : Int) < (ln : Int) := by omega
  obtain ⟨hi1, hi2⟩ := hin
  have wk : wrap64 ((tk : Int) + 1) = (tk : Int) + 1 := IntWalk.wrap64_in _ (by omega)
  rw [hln] at hle
  clear hln hq hx nx2 x0 hc hne nb ni
  have HSZB := hid (lt_of_block H1.out.2.2.2.1)
  have HYY := hid (And.intro hg y0')
  clear hg y0'
  go_upto_region 12 with fail
  clear r0 r1
  refine wp_region_chain (by kernel_rfl) [some 54, some 55, some 56, some 57, some 58, some 59, some 60, some 61, some 62, some 63, some 64, some 65, some 66, some 67, some 68, some 69, some 70, some 71, none] rfl (by decide) (by intro d hd; simp at hd ⊢; omega)
   [18] (fun cvs wx => match cvs with
    | [] => Fr (fun _ => False) w1 wx
    | _ => Fr (fun k => k = pb) w1 wx /\ wx.heap[pb]? = some (.cells #[.int .i64 0, .float .f64 (floatOfInt .f64 x), .string ⟨#[]⟩, .slice none 0 0] 58 (0, 0)))
   [.free (.pointer (some ⟨b, 0, none⟩)), .free (.pointer (some ⟨b, 0, none⟩)), .free (.pointer (some ⟨b, 0, none⟩)), .free (.slice (some ⟨g, off, none⟩) ln nc), .free (.pointer (some ⟨b, 0, none⟩)), .free (.pointer (some ⟨b, 0, none⟩)), .free (.pointer (some ⟨b, 1, none⟩)), .free (.int .i64 tk), .free (.pointer (some ⟨b, 0, none⟩)), .free (.pointer (some ⟨b, 0, none⟩)), .free (.pointer (some ⟨b, 0, none⟩)), .free (.slice (some ⟨g, off, none⟩) ln nc), .free (.int .i64 ln), .free (.int .i64 q), .free (.pointer (some ⟨g, off + q, none⟩)), .free (.int .i64 x), .free (.float .f64 (floatOfInt .f64 x)), .free (.pointer (some ⟨pb, 1, none⟩)), .link none]
   (by kernel_rfl) (by kernel_rfl) ?h0 ?step ?fin
  case h0 => exact (Fr.refl _ _).drew
  case step =>
   intro vals2
   simp only [frOfU, fillU, zsl]
   repeat' (first | exact AllOps.nil | refine AllOps.cons ?_ ?_)
   all_goals
    intro cvs wx hS he hu hlim K hK
    simp only [Act.put, zsl, zgl] at hK
    simp only [zml, Region.binds, forall_const, vmode_gc, Bool.false_eq_true, false_imp_iff, zgl, OpSort.val, Option.some.injEq, forall_eq', reduceCtorEq, implies_true, true_and, and_true] at he
    have HSX := hid (show Fr (fun k => k = pb) w1 wx from by
     match cvs, hS with
     | [], h => exact Fr.mono h (fun _ _ h => h.elim)
     | _ :: _, h => exact h.1)
    have HS0 := hid hS
    clear hS hu
   all_goals first | (clear hlim; (try simp only [he] at hK ⊢); go_simp; exact hK) | skip
   all_goals first | (clear hlim HS0; have r0 := cells_row (box_kept H1.out.2.2.2.1 HSX.out o1) 0 _ rfl; have r1 := cells_row (box_kept H1.out.2.2.2.1 HSX.out o1) 1 _ rfl; have y9 := cell_fr (R := fun k => R k /\ k < w.heap.size) HSX.out (fun k hk e => by have := hk.2; have := HORD.out; have := HTB.out; omega) ⟨HYY.out.1, HGW.out⟩ HYY.out.2; simp only [he] at hK ⊢; go_simp; exact hK) | skip
   ·obtain rfl := hlim (0 : Nat) rfl
    have h1 : Fr (fun _ => False) w1 wx := HS0.out
    have v9 := box_kept H1.out.2.2.1 h1 (fun h => h)
    have H9 := hid (And.intro h1 v9)
    have t0 := cells_row v9 0 _ rfl
    have t1 := cells_row v9 1 _ rfl
    have t2 := cells_row v9 2 _ rfl
    have t3 := cells_row v9 3 _ rfl
    have u1 : wx.frozen? ⟨pb, 1, none⟩ = false := by simp [World.frozen?, v9]
    clear hlim HS0 HSX h1 v9
    simp only [he] at hK ⊢
    go_simp
    exact hK undef _ (fun _ h => by cases h) ⟨(H9.out.1.mono (fun _ _ h => h.elim)).trans ((Fr.refl _ _).set1 _ _) fid2, setCell_row 1 _ H9.out.2⟩
  case fin =>
  intro vals2 w2 hS hV
  clear hV
  have h2 : Fr (fun k => k = pb) w1 w2 /\ w2.heap[pb]? = some (.cells #[.int .i64 0, .float .f64 (floatOfInt .f64 x), .string ⟨#[]⟩, .slice none 0 0] 58 (0, 0)) := hS
  have H2 := hid h2
  clear hS c0 c1 c2 c3 t0 t1 t2 t3 u0 u1 u2 u3 s0 s1 s2 s3 y0 y1 y2 y3 z1
  simp only [frOfU, fillU, zsl]
  have b2 := H1.out.2.2.2.1.fr H2.out.1 o1
  have r1 := cells_row b2 1 _ rfl
  have z1 : w2.frozen? ⟨b, 1, none⟩ = false := by unfold MBox at b2; simp [World.frozen?, b2]
  obtain ⟨w3, hw3⟩ : ∃ w3, w3 = w2.setCell ⟨b, 1, none⟩ (.int .i64 ((tk : Int) + 1)) := ⟨_, rfl⟩
  have f3 : Fr (fun k => k = b) w2 w3 := by rw [hw3]; exact (Fr.refl _ _).set1 _ _
  have b3 : MBox w3 b (.slice (some ⟨g, off, none⟩) ln nc) (tk + 1) (bg + 1) := by
   unfold MBox at b2 ⊢
   rw [hw3, setCell_row 1 _ b2]
   simp
  have q3 := box_kept (box_kept H1.out.1 H2.out.1 (fun e => by have := HORD.out; omega)) f3 (fun e => o4 e)
  have p3 := box_kept (box_kept H1.out.2.1 H2.out.1 (fun e => by have := HORD.out; omega)) f3 (fun e => o6 e)
  have v3 := box_kept H2.out.2 f3 (fun e => o2 e)
  have H3 := hid (And.intro q3 (And.intro p3 (And.intro v3 (And.intro ((rfl_new H1.out.2.2.2.2 (fun k hk => by have := HORD.out; have := HTB.out; omega) H2.out.1).trans f3 fid2) b3))))
  clear h2 b2 f3 b3 q3 p3 v3
  go_upto_region 14 with fail
  rw [<- hw3]
  clear hw3 r1 z1
  have q3 := H3.out.1
  have p3 := H3.out.2.1
  have v3 := H3.out.2.2.1
  have c0 := cells_row q3 0 _ rfl
  have t0 := cells_row v3 0 _ rfl
  have u0 : w3.frozen? ⟨pb, 0, none⟩ = false := by simp [World.frozen?, v3]
  have s0 := cells_row p3 0 _ rfl
  have y0 : w3.frozen? ⟨rb, 0, none⟩ = false := by simp [World.frozen?, p3]
  have c1 := cells_row q3 1 _ rfl
  have t1 := cells_row v3 1 _ rfl
  have u1 : w3.frozen? ⟨pb, 1, none⟩ = false := by simp [World.frozen?, v3]
  have s1 := cells_row p3 1 _ rfl
  have y1 : w3.frozen? ⟨rb, 1, none⟩ = false := by simp [World.frozen?, p3]
  have c2 := cells_row q3 2 _ rfl
  have t2 := cells_row v3 2 _ rfl
  have u2 : w3.frozen? ⟨pb, 2, none⟩ = false := by simp [World.frozen?, v3]
  have s2 := cells_row p3 2 _ rfl
  have y2 : w3.frozen? ⟨rb, 2, none⟩ = false := by simp [World.frozen?, p3]
  have c3 := cells_row q3 3 _ rfl
  have t3 := cells_row v3 3 _ rfl
  have u3 : w3.frozen? ⟨pb, 3, none⟩ = false := by simp [World.frozen?, v3]
  have s3 := cells_row p3 3 _ rfl
  have y3 : w3.frozen? ⟨rb, 3, none⟩ = false := by simp [World.frozen?, p3]
  clear q3 p3 v3
  go_wp2
  refine bodyPost_ret (results_cell_row rfl _ _ rb 58 _ _ _ rfl (store_four H3.out.2.1) Try.underlying58 rfl (by kernel_rfl)) rfl ?_
  refine rbuild_done (s := []) (of := fun _ => .nil) (tk2 := tk + 1) (bg2 := bg + 1) H3.out.2.1 H3.out.2.2.2.1 H3.out.2.2.2.2 (by have := HORD.out; omega) (by have := HORD.out; have := HTB.out; omega) (by
   have hk := HK.out.1
   subst hk
   unfold buildE
   simp [HX.out, NX.out]) (by unfold VB maxLen; exact ⟨by omega, by omega, HFL.out, by simp, by omega⟩) (.inl rfl)
end
section
attribute [local go_sem] run_store_float

theorem abc_at (q : Nat) (h : q < 26) : (⟨#[97, 98, 99, 100, 101, 102, 103, 104, 105, 106, 107, 108, 109, 110, 111, 112, 113, 114, 115, 116, 117, 118, 119, 120, 121, 122]⟩ : ByteArray).extract q (q + 1) = ⟨#[UInt8.ofNat (97 + q)]⟩ := by
 have : ∀ q : Fin 26, (⟨#[97, 98, 99, 100, 101, 102, 103, 104, 105, 106, 107, 108, 109, 110, 111, 112, 113, 114, 115, 116, 117, 118, 119, 120, 121, 122]⟩ : ByteArray).extract q.val (q.val + 1) = ⟨#[UInt8.ofNat (97 + q.val)]⟩ := by decide +kernel
 exact this ⟨q, h⟩

theorem letters_more (j : Nat) : (⟨(lettersE j).toArray⟩ : ByteArray) ++ ⟨#[UInt8.ofNat (97 + j % 26)]⟩ = ⟨(lettersE (j + 1)).toArray⟩ := by
 apply ByteArray.ext
 rw [ByteArray.data_append]
 simp [lettersE, List.range_succ]

set_option maxRecDepth 100000 in
theorem rbuild_k4 (l : List Int) (k : Nat) (m : Int) (ns : List Txt) (n : Nat) (of : Nat -> KT) (hk0 : k = 4) : RBuildAt l (.mk k m ns n of) := by
 intro R v nv w b tk bg hgood htk hbg hsh hRb hnum hbox
 obtain ⟨⟨hn12, hown⟩, hkids⟩ := hgood
 obtain ⟨hk8, hmost, hone, hparts, hnames, hnone⟩ := own_facts hown
 have hcost : 1 <= costE (.mk k m ns n of) := by unfold costE; omega
 have htk' : tk <= 100000 := by omega
 have hbg' : bg + 1 <= 100000 := by omega
 obtain ⟨_, _, _, _, _, a', c', e1, rfl, hrb, hrk⟩ := rshows_open hsh
 cases e1
 obtain ⟨nn, hnn⟩ : ∃ nn, ns.length = nn := ⟨_, rfl⟩
 have HRK := hid hrk
 have HRB := hid (show ∀ i, R i -> ¬ i = b from fun i hi e => hRb (by rw [<- e]; exact hi))
 have HN := hid hnum
 have HBX := hid hbox
 have hbl : b < w.heap.size := lt_of_block hbox
 have HBL := hid hbl
 obtain ⟨na, nc, rfl⟩ := hnum.shape
 unfold MBox at hbox
 have r0 := cells_row hbox 2 _ rfl
 have z0 : w.frozen? ⟨b, 2, none⟩ = false := by simp [World.frozen?, hbox]
 have n1 : b ≠ w.heap.size := by omega
 have n2 : w.heap.size ≠ b := by omega
 have n3 : b ≠ w.heap.size + 1 := by omega
 have n4 : w.heap.size + 1 ≠ b := by omega
 have HK := hid (And.intro hk0 (And.intro hmost (And.intro hone (And.intro hparts (And.intro hnames (And.intro hnone hnn))))))
 have HKIDS := hid hkids
 have HCST := hid (And.intro htk hbg)
 
 rw [hnn] at hrb ⊢
 obtain ⟨kz, hkz⟩ : ∃ kz : Int, (k : Int) = kz := ⟨_, rfl⟩
 rw [hkz]
 have e0 : (kz == 0) = false := by simp; omega
 have e1 : (kz == 1) = false := by simp; omega
 have e2 : (kz == 2) = false := by simp; omega
 have e3 : (kz == 3) = false := by simp; omega
 have e4 : (kz == 4) = true := by simp; omega
 have e5 : (kz == 5) = false := by simp; omega
 have e6 : (kz == 6) = false := by simp; omega
 have e7 : (kz == 7) = false := by simp; omega
 have e8 : (kz == 8) = false := by simp; omega
 clear hsh hrk hRb hnum hbox hk0 hk8 hmost hone hparts hnames hnone hkids htk hbg hkz hown hcost hrb hnn
 obtain ⟨w1, hw1⟩ : ∃ w1, w1 = (((w.setCell ⟨b, 2, none⟩ (.int .i64 ((bg : Int) + 1))).alloc (.cells #[.int .i64 kz, .int .i64 m, .int .i64 (nn : Nat), .slice a' n c'] 54)).alloc (.cells #[.int .i64 0, .float .f64 0, .string ⟨#[]⟩, .slice none 0 0] 58)).alloc (.cells #[.int .i64 0, .float .f64 0, .string ⟨#[]⟩, .slice none 0 0] 58) := ⟨_, rfl⟩
 obtain ⟨q1, p1, v1, b1, f1⟩ := rbuild_box kz m nn a' n c' HBX.out hw1
 go_enter Try.func15, Try.ntmps15
 go_upto_region 3 with fail
 rw [<- hw1]
 obtain ⟨tb, htb⟩ : ∃ tb, w.heap.size = tb := ⟨_, rfl⟩
 rw [htb] at q1 p1 v1 hbl n1 n2 n3 n4 ⊢
 have HTB := hid htb
 clear hw1 htb r0 z0 n1 n2 n3 n4 hbl
 try simp only [Nat.add_assoc, Nat.reduceAdd]
 obtain ⟨rb, hrb⟩ : ∃ rb, tb + 1 = rb := ⟨_, rfl⟩
 obtain ⟨pb, hpb⟩ : ∃ pb, tb + 2 = pb := ⟨_, rfl⟩
 rw [hrb] at p1 ⊢
 rw [hpb] at v1 ⊢
 have HORD := hid (show b < tb /\ tb < rb /\ rb < pb from ⟨by have := HBL.out; have := HTB.out; omega, by omega, by omega⟩)
 have m1 : tb ≠ pb := by omega
 have m2 : rb ≠ pb := by omega
 have m3 : pb ≠ rb := by omega
 have m4 : tb ≠ rb := by omega
 clear hrb hpb
 have H1 := hid (And.intro q1 (And.intro p1 (And.intro v1 (And.intro b1 f1))))
 have c0 := cells_row q1 0 _ rfl
 have c1 := cells_row q1 1 _ rfl
 have c2 := cells_row q1 2 _ rfl
 have c3 := cells_row q1 3 _ rfl
 clear q1 p1 v1 b1 f1
 have hm := HK.out.2.1 (.inl HK.out.1)
 have hnext := rnext_any R l _ b tk (bg + 1) (m + 1) w1 H1.out.2.2.2.1 (HN.out.fr H1.out.2.2.2.2 HRB.out) htk' (by omega) (by omega)
 obtain ⟨x, hx⟩ : ∃ x : Nat, numE l tk % (m + 1) = x := ⟨(numE l tk % (m + 1)).toNat, by have := Int.emod_nonneg (numE l tk) (show m + 1 ≠ 0 by omega); omega⟩
 have hxm : x <= 60 := by have := Int.emod_lt_of_pos (numE l tk) (show 0 < m + 1 by omega); omega
 rw [hx] at hnext
 have HX := hid hx
 obtain ⟨hm0, hm1⟩ := hm
 clear hx
 go_wp2_with fail
 refine hnext.mono ?_
 rintro e w2 ⟨rfl, f2, b2⟩
 clear hnext c0 c1 c2 c3
 have q2 := box_kept H1.out.1 f2 (fun e => by have := HORD.out; omega)
 have p2 := box_kept H1.out.2.1 f2 (fun e => by have := HORD.out; omega)
 have v2 := box_kept H1.out.2.2.1 f2 (fun e => by have := HORD.out; omega)
 have H2 := hid (And.intro q2 (And.intro p2 (And.intro v2 (And.intro (H1.out.2.2.2.2.trans f2 fid2) b2))))
 clear f2 b2 q2 p2 v2
 have hpb : w.heap.size <= pb := by have := HORD.out; have := HTB.out; omega
 have HPB := hid hpb
 clear hpb
 go_wp2_with fail
 go_loopg [7] x (fun G u7 wr => ∃ j : Nat, j <= x /\ G = x - j /\ u7 = .int .i64 j /\ Hid (Fr (fun k => k = pb) w2 wr /\ wr.heap[pb]? = some (.cells #[.int .i64 0, .float .f64 0, .string ⟨(lettersE j).toArray⟩, .slice none 0 0] 58 (0, 0))))
 case atStart => exact ⟨0, Nat.zero_le _, rfl, by go_num, hid ⟨Fr.refl _ _, H2.out.2.2.1⟩⟩
 case round =>
  obtain ⟨j, hj, rfl, rfl, HI⟩ := hrel
  by_cases hlt : j < x
  ·have t0 := cells_row HI.out.2 0 _ rfl
   have t1 := cells_row HI.out.2 1 _ rfl
   have t2 := cells_row HI.out.2 2 _ rfl
   have t3 := cells_row HI.out.2 3 _ rfl
   have u2 : wr.frozen? ⟨pb, 2, none⟩ = false := by simp [World.frozen?, HI.out.2]
   obtain ⟨q, hq⟩ : ∃ q : Nat, j % 26 = q := ⟨_, rfl⟩
   have q1 : q <= 25 := by omega
   have e1' : (j : Int) % 26 = (q : Int) := by omega
   have e2' : (j : Int).tmod 26 = (q : Int) := by rw [<- hq]; exact (Int.ofNat_tmod j 26).symm
   have hab := abc_at q (by omega)
   have hsl : ∀ W, (Instr.slice 9 (.string ⟨#[97, 98, 99, 100, 101, 102, 103, 104, 105, 106, 107, 108, 109, 110, 111, 112, 113, 114, 115, 116, 117, 118, 119, 120, 121, 122]⟩) (some (.int .i64 (q : Int))) (some (.int .i64 ((q : Int) + 1))) none).run Try.prog W = .ok (.string ⟨#[UInt8.ofNat (97 + q)]⟩) W := fun W => by
    have := run_slice_string (P := Try.prog) W 9 ⟨#[97, 98, 99, 100, 101, 102, 103, 104, 105, 106, 107, 108, 109, 110, 111, 112, 113, 114, 115, 116, 117, 118, 119, 120, 121, 122]⟩ .i64 .i64 (q : Int) ((q : Int) + 1) Try.underlying9 (by omega) (by omega) (by show (q : Int) + 1 <= (26 : Nat); omega)
    rw [this]
    have e1 : (q : Int).toNat = q := by omega
    have e2 : ((q : Int) + 1).toNat = q + 1 := by omega
    rw [e1, e2, hab]
   have hmore := letters_more j
   rw [hq] at hmore
   have hlen : (⟨(lettersE j).toArray⟩ : ByteArray).size <= 60 := by show (lettersE j).toArray.size <= 60; simp [lettersE_length]; omega
   obtain ⟨LT, hLT⟩ : ∃ LT : ByteArray, LT = ⟨#[UInt8.ofNat (97 + q)]⟩ := ⟨_, rfl⟩
   have hlt1 : LT.size = 1 := by rw [hLT]; rfl
   rw [<- hLT] at hsl hmore
   generalize (⟨(lettersE j).toArray⟩ : ByteArray) = SJ at *
   have hadd : ∀ W, (Op.stringOp .add SJ LT).run Try.prog W = .ok (.string (SJ ++ LT)) W := fun W => run_string_add_sum W SJ LT (by omega)
   have hw1 : wrap64 ((q : Int) + 1) = (q : Int) + 1 := IntWalk.wrap64_in _ (by omega)
   have HMORE := hid hmore
   clear hmore hab hLT hq hlen hlt1
   go_upto_region 19 with fail
   go_region
   all_goals
    go_wp2_with fail
    go_roundg (x - (j + 1))
    case measure => omega
    case rel =>
     refine ⟨j + 1, by omega, rfl, by go_num, hid ⟨(HI.out.1.trans ((Fr.refl _ _).set1 _ _) fid2).drew, ?_⟩⟩
     have h := setCell_row 2 (.string (SJ ++ LT)) HI.out.2
     rw [<- HMORE.out]
     exact h
  ·obtain rfl : x = j := by omega
   have q3 := box_kept H2.out.1 HI.out.1 (fun e => by have := HORD.out; omega)
   have p3 := box_kept H2.out.2.1 HI.out.1 (fun e => by have := HORD.out; omega)
   have v3 := HI.out.2
   have H3 := hid (And.intro p3 (And.intro (rfl_new H2.out.2.2.2.1 (fun k hk => by have := HPB.out; omega) HI.out.1) (H2.out.2.2.2.2.fr HI.out.1 (fun e => by have := HORD.out; omega))))
   have c0 := cells_row q3 0 _ rfl
   have t0 := cells_row v3 0 _ rfl
   have u0 : wr.frozen? ⟨pb, 0, none⟩ = false := by simp [World.frozen?, v3]
   have s0 := cells_row p3 0 _ rfl
   have y0 : wr.frozen? ⟨rb, 0, none⟩ = false := by simp [World.frozen?, p3]
   have c1 := cells_row q3 1 _ rfl
   have t1 := cells_row v3 1 _ rfl
   have u1 : wr.frozen? ⟨pb, 1, none⟩ = false := by simp [World.frozen?, v3]
   have s1 := cells_row p3 1 _ rfl
   have y1 : wr.frozen? ⟨rb, 1, none⟩ = false := by simp [World.frozen?, p3]
   have c2 := cells_row q3 2 _ rfl
   have t2 := cells_row v3 2 _ rfl
   have u2 : wr.frozen? ⟨pb, 2, none⟩ = false := by simp [World.frozen?, v3]
   have s2 := cells_row p3 2 _ rfl
   have y2 : wr.frozen? ⟨rb, 2, none⟩ = false := by simp [World.frozen?, p3]
   have c3 := cells_row q3 3 _ rfl
   have t3 := cells_row v3 3 _ rfl
   have u3 : wr.frozen? ⟨pb, 3, none⟩ = false := by simp [World.frozen?, v3]
   have s3 := cells_row p3 3 _ rfl
   have y3 : wr.frozen? ⟨rb, 3, none⟩ = false := by simp [World.frozen?, p3]
   clear q3 p3 v3
   go_wp2
   refine bodyPost_ret (results_cell_row rfl _ _ rb 58 _ _ _ rfl (store_four H3.out.1) Try.underlying58 rfl (by kernel_rfl)) rfl ?_
   refine rbuild_done (s := lettersE x) (of := fun _ => .nil) (tk2 := nextE l tk) (bg2 := bg + 1) H3.out.1 H3.out.2.1 H3.out.2.2 (by have := HORD.out; omega) (by have := HORD.out; have := HTB.out; omega) (by
    have hk := HK.out.1
    subst hk
    unfold buildE
    simp [HX.out]) (by unfold VB maxLen; simp [lettersE_length]; omega) (.inl rfl)
end
section
theorem rbuild_any (l : List Int) (t : KT) : RBuildAt l t := by
 induction t with
 | nil => exact fun _ _ _ _ _ _ _ _ _ _ h => h.elim
 | mk k m ns n of ih =>
  intro R v nv w b tk bg hg h1 h2 h3 h4 h5 h6
  have hk := (own_facts hg.1.2).1
  have key : RBuildAt l (.mk k m ns n of) := by
   rcases (by omega : k = 0 \/ k = 1 \/ k = 2 \/ k = 3 \/ k = 4 \/ k = 5 \/ k = 6 \/ k = 7 \/ k = 8) with h | h | h | h | h | h | h | h | h
   ·exact rbuild_k0 l k m ns n of h
   ·exact rbuild_k1 l k m ns n of h
   ·exact rbuild_k2 l k m ns n of h
   ·exact rbuild_k3 l k m ns n of h
   ·exact rbuild_k4 l k m ns n of h
   ·exact rbuild_k5 l k m ns n of ih h
   ·exact rbuild_k6 l k m ns n of ih h
   ·exact rbuild_k7 l k m ns n of h
   ·exact rbuild_k8 l k m ns n of ih h
  exact key R v nv w b tk bg hg h1 h2 h3 h4 h5 h6
end
section
attribute [local go_sem] run_store_float

def ofAt (t : VT) : Prop := ∀ (R : Nat -> Prop) (v : Value) (w : World), VShows R w t v -> szV t <= 1000 ->
 Calls Try.prog 14 #[v] w fun e w' => ∃ v', e = .returned v' /\ VShows (fun k => w.heap.size <= k) w' t v' /\ Fr (fun _ => False) w w'

set_option maxRecDepth 100000 in
theorem of_any (t : VT) : ofAt t := by
 induction t with
 | nil => exact fun _ _ _ h => h.elim
 | mk N f sx n of ih =>
 intro R v w hsh hszv
 obtain ⟨_, _, _, _, _, a', c', e1, rfl, hVB, hs⟩ := vshows_open hsh
 cases e1
 have HB := hid hVB
 have HS := hid hs
 have hn1 : n <= 1000 := by
  have h := hszv
  rw [szV] at h
  have hall : ∀ j, j <= ((List.range j).map fun i => szV (of i)).sum := fun j => by
   induction j with
   | zero => simp
   | succ j ih => rw [List.range_succ, List.map_append, List.sum_append]; have := szV_pos (of j); simp; omega
  have := hall n
  omega
 have HSZ := hid (show ∀ j, j < n -> szV (of j) <= 1000 from fun j hj => by
  have h := hszv
  rw [szV] at h
  have h2 := sumTo_le (fun i => szV (of i)) j n hj
  unfold sumTo at h2
  omega)
 unfold sv
 clear hsh hVB hs hszv
 obtain ⟨w1, hw1⟩ : ∃ w1, w1 = ((w.alloc (.cells #[.int .i64 N, .float .f64 f, .string ⟨sx.toArray⟩, .slice a' n c'] 58)).alloc (.cells #[.int .i64 0, .float .f64 0, .string ⟨#[]⟩, .slice none 0 0] 44)).alloc (.cells #[.int .i64 N, .float .f64 f, .string ⟨sx.toArray⟩, .slice none 0 0] 44) := ⟨_, rfl⟩
 have f1 : Fr (fun _ => False) w w1 := by rw [hw1]; exact (((Fr.refl _ _).alloc _).alloc _).alloc _
 have q1 : w1.heap[w.heap.size]? = some (.cells #[.int .i64 N, .float .f64 f, .string ⟨sx.toArray⟩, .slice a' n c'] 58 (0, 0)) := by
  rw [hw1, Below.heap_alloc _ _ _ (by simp; omega)]; exact heap_alloc_first _ _ _
 have p1 : w1.heap[w.heap.size + 1]? = some (.cells #[.int .i64 0, .float .f64 0, .string ⟨#[]⟩, .slice none 0 0] 44 (0, 0)) := by
  rw [hw1, Below.heap_alloc _ _ _ (by simp)]; exact heap_alloc_two _ _ _
 have l1 : CLoc 44 (.int .i64 N) (.float .f64 f) (.string ⟨sx.toArray⟩) w1 (w.heap.size + 1 + 1) (.slice none 0 0) := by
  have h := heap_alloc_new ((w.alloc (.cells #[.int .i64 N, .float .f64 f, .string ⟨sx.toArray⟩, .slice a' n c'] 58)).alloc (.cells #[.int .i64 0, .float .f64 0, .string ⟨#[]⟩, .slice none 0 0] 44)) (.cells #[.int .i64 N, .float .f64 f, .string ⟨sx.toArray⟩, .slice none 0 0] 44)
  rw [show ((w.alloc (.cells #[.int .i64 N, .float .f64 f, .string ⟨sx.toArray⟩, .slice a' n c'] 58)).alloc (.cells #[.int .i64 0, .float .f64 0, .string ⟨#[]⟩, .slice none 0 0] 44)).heap.size = w.heap.size + 1 + 1 by simp] at h
  rw [hw1]
  exact h
 have w0n : w.heap.size ≠ w.heap.size + 1 := by omega
 obtain ⟨w0, hw0⟩ : ∃ w0, w0 = (w.alloc (.cells #[.int .i64 N, .float .f64 f, .string ⟨sx.toArray⟩, .slice a' n c'] 58)).alloc (.cells #[.int .i64 0, .float .f64 0, .string ⟨#[]⟩, .slice none 0 0] 44) := ⟨_, rfl⟩
 have q0 : w0.heap[w.heap.size]? = some (.cells #[.int .i64 N, .float .f64 f, .string ⟨sx.toArray⟩, .slice a' n c'] 58 (0, 0)) := by rw [hw0]; exact heap_alloc_first _ _ _
 obtain ⟨c0, c1, c2, c3⟩ := cell_of_four q0
 have sz0 : w0.heap.size = w.heap.size + 1 + 1 := by rw [hw0]; simp
 go_enter Try.func14, Try.ntmps14
 go_upto_region 1 with fail
 rw [<- hw0]
 have HW1 := hid (show w1 = w0.alloc (.cells #[.int .i64 N, .float .f64 f, .string ⟨sx.toArray⟩, .slice none 0 0] 44) from by rw [hw1, hw0])
 clear hw0 hw1 q0 w0n
 go_upto_region 2 with fail
 rw [<- HW1.out]
 try rw [sz0]
 clear c0 c1 c2 c3 sz0
 obtain ⟨lb, hlb⟩ : ∃ lb, w.heap.size + 1 + 1 = lb := ⟨_, rfl⟩
 obtain ⟨rb, hrb⟩ : ∃ rb, w.heap.size + 1 = rb := ⟨_, rfl⟩
 rw [hlb] at l1 ⊢
 rw [hrb] at p1 ⊢
 have o1 : w.heap.size < rb := by omega
 have o2 : rb < lb := by omega
 have c3 := cells_row q1 3 _ rfl
 have H1 := hid (And.intro f1 (And.intro p1 l1))
 clear f1 q1 p1 l1 hlb hrb
 go_wp2
 clear c3
 go_loopg [5, 16] n (fun G u5 uc wr => ∃ (j : Nat) (po : Value), j <= n /\ G = n - j /\ uc = .int .i64 j /\ Hid (Fr (fun _ => False) w wr /\ CLoc 44 (.int .i64 N) (.float .f64 f) (.string ⟨sx.toArray⟩) wr lb po /\ ItRow vShown 44 4 (lb + 1) (fun _ => False) wr po ((List.range j).map of) /\ wr.heap[rb]? = some (.cells #[.int .i64 0, .float .f64 0, .string ⟨#[]⟩, .slice none 0 0] 44 (0, 0))))
 case atStart => exact ⟨0, .slice none 0 0, Nat.zero_le _, rfl, by go_num, hid ⟨H1.out.1, H1.out.2.2, ItRow.nil _ _ _ _ _ _, H1.out.2.1⟩⟩
 case round =>
  obtain ⟨j, po, hj, rfl, rfl, HI⟩ := hrel
  obtain ⟨qa, qc, hpo⟩ : ∃ qa qc, po = .slice qa j qc := by
   obtain ⟨qa, qc, e⟩ := HI.out.2.2.1.slice
   rw [show ((List.range j).map of).length = j by simp] at e
   exact ⟨qa, qc, e⟩
  subst hpo
  have hlbr : lb < wr.heap.size := lt_of_block HI.out.2.1
  by_cases hlt : j < n
  ·rcases HS.out with hz | ⟨hcap, g, off, hg, rfl, hcell⟩
   ·omega
   obtain ⟨x0, x1, x2, x3, y0, y1, y2, y3, hx⟩ := hcell j hlt
   have y0 := cell_fr HI.out.1 fid2 hg y0
   have y1 := cell_fr HI.out.1 fid2 hg y1
   have y2 := cell_fr HI.out.1 fid2 hg y2
   have y3 := cell_fr HI.out.1 fid2 hg y3
   obtain ⟨xn, xf, xs, xa, xc, xcap, ex⟩ := hx.lit
   simp only [Value.agg.injEq, Array.mk.injEq, List.cons.injEq, and_true] at ex
   obtain ⟨rfl, rfl, rfl, rfl⟩ := ex
   have HX := hid (VShows.fr HI.out.1 fid2 _ _ (VShows.mono (S := fun k => R k /\ k < w.heap.size) (fun k hk h => ⟨h, hk⟩) _ _ hx))
   have HLT := hid hlt
   have jn : (j : Int) < (n : Int) := by omega
   have j0 : (0 : Int) <= (j : Int) := by omega
   clear hcell hx
   go_wp2_with fail
   obtain ⟨wp, hwp⟩ : ∃ wp, wp = wr.alloc (.cells #[.int .i64 xn, .float .f64 xf, .string xs, .slice xa xc xcap] 58) := ⟨_, rfl⟩
   rw [<- hwp]
   obtain ⟨pb, hpb⟩ : ∃ pb, wr.heap.size = pb := ⟨_, rfl⟩
   have fp : Fr (fun _ => False) wr wp := by rw [hwp]; exact (Fr.refl _ _).alloc _
   have qp : wp.heap[pb]? = some (.cells #[.int .i64 xn, .float .f64 xf, .string xs, .slice xa xc xcap] 58 (0, 0)) := by rw [hwp, <- hpb]; exact heap_alloc_new _ _
   have hown : ∀ k, (Value.slice qa j qc).ownBlock = some k -> lb + 1 <= k /\ k < pb := fun k hk => by
    have := HI.out.2.2.1.own k hk
    omega
   have hpbw : pb < wp.heap.size := lt_of_block qp
   have hpbv : lb < pb := by omega
   rw [hpb]
   have HP := hid (And.intro fp (And.intro qp hown))
   have HB0 := hid (And.intro hpbv (And.intro o1 o2))
   clear hwp hpb fp qp hown y0 y1 y2 y3 hlt jn j0
   have hacc : CopyS vShown 44 (.int .i64 N) (.float .f64 f) (.string ⟨sx.toArray⟩) wp lb (.slice qa j qc) ((List.range j).map of) (of j) [] wp.drew :=
    ⟨(Fr.refl _ _).drew, box_kept HI.out.2.1 (HP.out.1.drew) (fun h => h), HI.out.2.2.1.fr (HP.out.1.drew) fid2⟩
   have HACC := hid hacc
   clear hacc
   refine wp_region_chain (by kernel_rfl) [some 20, some 21, some 22, some 23, some 24, some 25, some 26, none] rfl (by decide) (by intro d hd; simp at hd ⊢; omega)
    [3, 4, 5, 7] (CopyS vShown 44 (.int .i64 N) (.float .f64 f) (.string ⟨sx.toArray⟩) wp lb (.slice qa j qc) ((List.range j).map of) (of j))
    [.free (.pointer (some ⟨lb, 3, none⟩)), .free (.slice qa j qc), .free (.agg #[.int .i64 xn, .float .f64 xf, .string xs, .slice xa xc xcap]), .link none, .link none, .link none, .free (.pointer (some ⟨lb, 3, none⟩)), .link none]
    (by kernel_rfl) (by kernel_rfl) ?h0 ?step ?fin
   case h0 => exact HACC.out
   case step =>
    intro vals2
    simp only [frOfU, fillU, zsl]
    repeat' (first | exact AllOps.nil | refine AllOps.cons ?_ ?_)
    all_goals
     intro cvs wx hS he hu hlim K hK
     simp only [Act.put, zsl, zgl] at hK
     simp only [zml, Region.binds, forall_const, vmode_gc, Bool.false_eq_true, false_imp_iff, zgl, OpSort.val, Option.some.injEq, forall_eq', reduceCtorEq, implies_true, true_and, and_true] at he
     have HSX := hid hS
     clear hS
    all_goals first | (clear hlim hu; (try simp only [he] at hK ⊢); go_simp; exact hK) | skip
    ·have hl := HSX.out.loc (Nat.le_trans (hlim 2 5 rfl (by kernel_rfl)) (by omega))
     have e3 := cells_row hl 3 _ rfl
     clear hlim hu hl
     simp only [he] at hK ⊢
     go_simp
     exact hK
    ·have hq := box_kept HP.out.2.1 HSX.out.f (fun h => by
      rcases h with h | h
      ·have := HB0.out; omega
      ·have := (HP.out.2.2 _ h).2; omega)
     obtain ⟨e0, e1, e2, e3⟩ := cell_of_four hq
     clear hlim hu hq
     simp only [he] at hK ⊢
     go_simp
     exact hK
    ·obtain rfl := hlim (0 : Nat) rfl
     have h1 := HSX.out
     simp only [List.take_zero, List.map_nil] at h1
     simp only [he] at hK ⊢
     go_simp
     go_at_call 14
     have hR : ∀ k, (R k /\ k < w.heap.size) -> ¬ CDirt lb (.slice qa j qc) k := fun k hk h => by
      rcases h with h | h
      ·have := HB0.out; omega
      ·have := (HP.out.2.2 _ h).1; have := HB0.out; omega
     refine (ih j (fun k => R k /\ k < w.heap.size) _ wx (VShows.fr h1.1 hR _ _ (VShows.fr HP.out.1 fid2 _ _ HX.out)) (HSZ.out j HLT.out)).mono ?_
     rintro e1 wa ⟨v', rfl, hsv, fa⟩
     have hx1 := hsv
     obtain ⟨zn, zf, zs, za, zc, zcap, e4⟩ := hx1.lit
     subst e4
     exact hK _ _ (fun _ h => by cases h) ⟨h1.1.trans fa (fun i _ h => h.elim), box_kept h1.2.1 fa (fun h => h), h1.2.2.fr fa fid2, _, _, _, _, rfl, _, _, _, _, rfl, VShows.mono (fun k _ hk => Nat.le_trans h1.1.size hk) _ _ hsv⟩
    ·obtain rfl := hlim (1 : Nat) rfl
     have h1 := HSX.out
     clear HSX hlim hu
     simp only [List.take_succ_cons, List.take_zero, List.map_cons, List.map_nil] at h1 hK
     obtain ⟨hf, hl, hr, z0, z1, z2, z3, e5, hs⟩ := h1
     simp only [he, e5] at hK ⊢
     go_simp
     have fa : Fr (fun _ => False) wx (wx.alloc (.cells #[z0, z1, z2, z3] 44)) := (Fr.refl _ _).alloc _
     exact hK _ _ (fun _ h => by cases h) ⟨hf.trans fa (fun _ _ h => h.elim), box_kept hl fa (fun h => h), hr.fr fa fid2, _, _, _, _, _, rfl, heap_alloc_new _ _, vShown.fr hs fa fid2⟩
    ·obtain rfl := hlim (2 : Nat) rfl
     have h1 := HSX.out
     clear HSX hlim hu
     simp only [List.take_succ_cons, List.take_zero, List.map_cons, List.map_nil] at h1 hK
     obtain ⟨hf, hl, hr, gg, z0, z1, z2, z3, e6, hgg, hss⟩ := h1
     rw [if_pos (by rfl)]
     have hsz := lt_of_block hl
     have hfs := hf.size
     have hb0 := HB0.out
     refine opWp_push (pv := (.slice qa j qc)) (l := (List.range j).map of) (B := lb + 1) (X := fun _ => False) (D := vShown) (.tmp 21) (.tmp 24) 42 42 rfl Try.underlying42 Try.underlying42 Try.infoValue rfl (by decide) he hr gg e6 (news := [z0, z1, z2, z3]) hgg rfl (by obtain ⟨_, _, _, _, e, h⟩ := hss; cases e; exact vshows_one h) (by simp; omega) (by omega) (by omega) (fun k hk => hk.elim) (of j) (vShown.mono hss (fun k _ hk => ⟨by omega, fun h => h, fun h => by have := (HP.out.2.2 _ h).2; omega⟩)) ?_
     intro v' w8 hrow f6 hv
     refine hK _ _ (fun _ h => by cases h) ⟨hf.trans f6 (fun i _ h => .inr h), box_kept hl f6 (fun h => by have := (HP.out.2.2 _ h).1; omega), hrow⟩
    ·obtain rfl := hlim (3 : Nat) rfl
     have h1 := HSX.out
     clear HSX hlim hu
     simp only [List.take_succ_cons, List.take_zero, List.map_cons, List.map_nil] at h1 hK
     obtain ⟨hf, hl, hr⟩ := h1
     obtain ⟨xa2, xn2, xc2, e7⟩ : ∃ xa xn xc, vals2 5 = .slice xa xn xc := by obtain ⟨a, c, e⟩ := hr.slice; exact ⟨a, _, c, e⟩
     have z2 : wx.frozen? ⟨lb, 3, none⟩ = false := by unfold CLoc at hl; simp [World.frozen?, hl]
     obtain ⟨e0, e1, e2, e3⟩ := cell_of_four hl
     have fs : Fr (fun k => k = lb) wx (wx.setCell ⟨lb, 3, none⟩ (vals2 5)) := Fr.set1 (Fr.refl _ _) 3 _
     have HG := hid (show CopyS vShown 44 (.int .i64 N) (.float .f64 f) (.string ⟨sx.toArray⟩) wp lb (.slice qa j qc) ((List.range j).map of) (of j) [vals2 3, vals2 4, vals2 5, undef] (wx.setCell ⟨lb, 3, none⟩ (vals2 5)) from
      ⟨hf.trans fs (fun i _ h => .inl h), setCell_row 3 _ hl, hr.fr fs (fun k hk h => by omega)⟩)
     clear hf hl hr fs
     rw [e7] at HG
     simp only [he, e7] at hK ⊢
     go_simp
     exact hK undef _ (fun _ h => by cases h) HG.out
   case fin =>
    intro vals2 w7 hS hV
    clear hV
    simp only [List.map_cons, List.map_nil] at hS
    obtain ⟨hf, hl, hr⟩ := hS
    have hd : ∀ i, i < w.heap.size -> ¬ CDirt lb (.slice qa j qc) i := fun i hi h => by
     rcases h with h | h
     ·have := HB0.out; omega
     ·have := (HP.out.2.2 _ h).1; have := HB0.out; omega
    have f0 := HI.out.1.trans HP.out.1 fid2
    have fw : Fr (fun _ => False) w w7 := ⟨hf.os.trans f0.os, hf.tape.trans f0.tape, hf.output.trans f0.output, Nat.le_trans f0.size hf.size, fun i hi hs => by
     rw [hf.block i (Nat.lt_of_lt_of_le hi f0.size) (hd i hi), f0.block i hi hs]⟩
    have hrbk := box_kept (box_kept HI.out.2.2.2 HP.out.1 (fun h => h)) hf (fun h => by
     rcases h with h | h
     ·omega
     ·have := (HP.out.2.2 _ h).1; omega)
    have HS2 := hid (show Fr (fun _ => False) w w7 /\ CLoc 44 (.int .i64 N) (.float .f64 f) (.string ⟨sx.toArray⟩) w7 lb (vals2 5) /\ ItRow vShown 44 4 (lb + 1) (fun _ => False) w7 (vals2 5) ((List.range (j + 1)).map of) /\ w7.heap[rb]? = some (.cells #[.int .i64 0, .float .f64 0, .string ⟨#[]⟩, .slice none 0 0] 44 (0, 0)) from by
     rw [List.range_succ, List.map_append]; exact ⟨fw, hl, hr, hrbk⟩)
    clear hf hl hr fw hrbk hd f0
    simp only [frOfU, fillU, zsl]
    go_wp2
    go_roundg (n - (j + 1))
    case measure => have := HLT.out; omega
    case rel => exact ⟨j + 1, vals2 5, HLT.out, rfl, by go_num, HS2⟩
  ·obtain rfl : j = n := by omega
   obtain ⟨d0, d1, d2, d3⟩ := cell_of_four HI.out.2.1
   have p2 := HI.out.2.2.2
   have t0 := cells_row p2 0 _ rfl
   have t1 := cells_row p2 1 _ rfl
   have t2 := cells_row p2 2 _ rfl
   have t3 := cells_row p2 3 _ rfl
   have u0 : wr.frozen? ⟨rb, 0, none⟩ = false := by simp [World.frozen?, p2]
   have u1 : wr.frozen? ⟨rb, 1, none⟩ = false := by simp [World.frozen?, p2]
   have u2 : wr.frozen? ⟨rb, 2, none⟩ = false := by simp [World.frozen?, p2]
   have u3 : wr.frozen? ⟨rb, 3, none⟩ = false := by simp [World.frozen?, p2]
   clear p2
   go_wp2
   refine bodyPost_ret (results_cell_row rfl _ _ rb 44 _ _ _ rfl (store_four HI.out.2.2.2) Try.underlying44 rfl (by kernel_rfl)) rfl ?_
   have fs : Fr (fun k => k = rb) wr ((((wr.setCell ⟨rb, 0, none⟩ (.int .i64 N)).setCell ⟨rb, 1, none⟩ (.float .f64 f)).setCell ⟨rb, 2, none⟩ (.string ⟨sx.toArray⟩)).setCell ⟨rb, 3, none⟩ (.slice qa j qc)) := fr_four _ _ _ _ (Fr.refl _ _) (fun _ => rfl)
   refine ⟨_, rfl, ?_, HI.out.1.trans fs (fun i hi h => by omega)⟩
   have hk0 := ItRow.vkids' HI.out.2.2.1 of (fun i x hi => map_range_of hi)
   exact VShows.mono (fun k _ (h : lb + 1 <= k) => by omega) _ _ (vshows_mk (s := sx) HB.out (hk0.fr fs (fun k (hk : lb + 1 <= k) e => by omega)))
end
section
def lval0 : Array Value := #[.int .i64 0, .float .f64 0, .string ⟨#[]⟩, .slice none 0 0]

structure LkA (w : World) (gm : Nat) (A : KT) (BV : VT) (st : Nat -> Option Value) (wx : World) : Prop where
 fr : Fr (fun _ => False) w wx
 t5 : ∀ v, st 5 = some v -> ∃ b, v = pptr b /\ w.heap.size <= b /\ (st 9 = none -> MBox wx b (.slice (some ⟨gm, 8, none⟩) 8 8) 0 0)
 t8 : ∀ v, st 8 = some v -> RShows (fun k => k < wx.heap.size /\ st 5 ≠ some (pptr k)) wx A v \/ st 9 ≠ none
 t9 : ∀ v, st 9 = some v -> VShows (fun _ => True) wx BV v
 t10 : ∀ v, st 10 = some v -> VShows (fun k => k < wx.heap.size /\ st 11 ≠ some (pptr k)) wx BV v
 t11 : ∀ v, st 11 = some v -> ∃ g, v = pptr g /\ w.heap.size <= g /\ wx.heap[g]? = some (.cells lval0 44 (0, 0))

def LkIn (w : World) (BV : VT) (g : Nat) (wx : World) : Prop :=
 Fr (fun _ => False) w wx /\ w.heap.size <= g /\ ∃ x0 x1 x2 x3, wx.heap[g]? = some (.cells #[x0, x1, x2, x3] 44 (0, 0)) /\ VShows (fun _ => True) wx BV (.agg #[x0, x1, x2, x3])

def LkS (w : World) (gm : Nat) (A : KT) (BV : VT) (st : Nat -> Option Value) (wx : World) : Prop := match st 12 with
 | none => LkA w gm A BV st wx
 | some _ => ∃ g, st 11 = some (pptr g) /\ LkIn w BV g wx

section
variable {w wx wy : World} {gm : Nat} {A : KT} {BV : VT} {st : Nat -> Option Value}

theorem LkS.a (h : LkS w gm A BV st wx) (h12 : st 12 = none) : LkA w gm A BV st wx := by
 unfold LkS at h; rw [h12] at h; exact h

theorem LkA.toS (h : LkA w gm A BV st wx) (h12 : st 12 = none) : LkS w gm A BV st wx := by
 unfold LkS; rw [h12]; exact h

theorem LkS.fr (h : LkS w gm A BV st wx) : Fr (fun _ => False) w wx := by
 unfold LkS at h
 split at h
 ·exact h.fr
 ·obtain ⟨g, _, h1, _⟩ := h; exact h1

theorem LkA.later (h : LkA w gm A BV st wx) (f : Fr (fun _ => False) wx wy) : LkA w gm A BV st wy where
 fr := h.fr.trans f fid2
 t5 := fun v hv => by
  obtain ⟨b, e, hb, hm⟩ := h.t5 v hv
  exact ⟨b, e, hb, fun h9 => (hm h9).fr f (fun h => h)⟩
 t8 := fun v hv => by
  rcases h.t8 v hv with h1 | h1
  ·exact .inl (RShows.mono (fun k hk h2 => ⟨hk, h2.2⟩) _ _ (RShows.fr f fid2 _ _ h1))
  ·exact .inr h1
 t9 := fun v hv => VShows.fr f fid2 _ _ (h.t9 v hv)
 t10 := fun v hv => VShows.mono (fun k hk h2 => ⟨hk, h2.2⟩) _ _ (VShows.fr f fid2 _ _ (h.t10 v hv))
 t11 := fun v hv => by
  obtain ⟨g, e, hg, hc⟩ := h.t11 v hv
  exact ⟨g, e, hg, pbox_kept hc f (fun h => h)⟩

theorem LkA.box5 (h : LkA w gm A BV st wx) (h9 : st 9 = none) : LkA w gm A BV (pupd st 5 (pptr wx.heap.size)) (wx.alloc (.cells #[.slice (some ⟨gm, 8, none⟩) 8 8, .int .i64 0, .int .i64 0] 73)) :=
 have f : Fr (fun _ => False) wx (wx.alloc (.cells #[.slice (some ⟨gm, 8, none⟩) 8 8, .int .i64 0, .int .i64 0] 73)) := (Fr.refl _ _).alloc _
 have hl := h.later f
 {fr := hl.fr
  t5 := fun u hu => by
   have e : pptr wx.heap.size = u := by simpa [pupd] using hu
   subst e
   exact ⟨_, rfl, h.fr.size, fun _ => heap_alloc_new _ _⟩
  t8 := fun u hu => by
   rcases h.t8 u (by simpa [pupd] using hu) with h1 | h1
   ·exact .inl (RShows.fr f fid2 _ _ (RShows.mono (fun k hk h2 => ⟨Nat.lt_of_lt_of_le h2.1 f.size, fun e => by
     have e' : pptr wx.heap.size = pptr k := by simpa [pupd] using e
     have := pptr_inj e'
     have := h2.1
     omega⟩) _ _ h1))
   ·exact absurd h9 h1
  t9 := fun u hu => hl.t9 u (by simpa [pupd] using hu)
  t10 := fun u hu => VShows.mono (fun k hk h2 => ⟨hk, fun e => h2.2 (by simpa [pupd] using e)⟩) _ _ (hl.t10 u (by simpa [pupd] using hu))
  t11 := fun u hu => hl.t11 u (by simpa [pupd] using hu) }

theorem LkA.call8 (h : LkA w gm A BV st wx) (f : Fr (fun _ => False) wx wy) (h9 : st 9 = none) {v : Value} (hv : RShows (fun k => wx.heap.size <= k) wy A v) : LkA w gm A BV (pupd st 8 v) wy :=
 have hl := h.later f
 {fr := hl.fr
  t5 := fun u hu => by
   obtain ⟨b, e, hb, hm⟩ := hl.t5 u (by simpa [pupd] using hu)
   exact ⟨b, e, hb, fun _ => hm h9⟩
  t8 := fun u hu => by
   have e : v = u := by simpa [pupd] using hu
   subst e
   refine .inl (RShows.mono (fun k hk h2 => ⟨hk, fun e => ?_⟩) _ _ hv)
   obtain ⟨b, eb, hb, hm⟩ := h.t5 (pptr k) (by simpa [pupd] using e)
   have := pptr_inj eb
   have := lt_of_block (hm h9)
   omega
  t9 := fun u hu => hl.t9 u (by simpa [pupd] using hu)
  t10 := fun u hu => VShows.mono (fun k hk h2 => ⟨hk, fun e => h2.2 (by simpa [pupd] using e)⟩) _ _ (hl.t10 u (by simpa [pupd] using hu))
  t11 := fun u hu => hl.t11 u (by simpa [pupd] using hu) }

theorem LkA.build9 (h : LkA w gm A BV st wx) {b : Nat} (h5 : st 5 = some (pptr b)) (h9 : st 9 = none) (h10 : st 10 = none) (f : Fr (fun k => k = b) wx wy) {v : Value} (hv : VShows (fun k => wx.heap.size <= k) wy BV v) : LkA w gm A BV (pupd st 9 v) wy := by
 obtain ⟨b', eb, hb, hm⟩ := h.t5 _ h5
 obtain rfl := pptr_inj eb
 exact
 {fr := Fr.new h.fr (fun k hk => by omega) f
  t5 := fun u hu => by
   obtain ⟨b2, e, hb2, _⟩ := h.t5 u (by simpa [pupd] using hu)
   exact ⟨b2, e, hb2, fun hn => by simp [pupd] at hn⟩
  t8 := fun u hu => .inr (by simp [pupd])
  t9 := fun u hu => by
   have e : v = u := by simpa [pupd] using hu
   subst e
   exact VShows.mono (fun _ _ _ => trivial) _ _ hv
  t10 := fun u hu => by
   have e : st 10 = some u := by simpa [pupd] using hu
   rw [h10] at e; cases e
  t11 := fun u hu => by
   obtain ⟨g, e, hg, hc⟩ := h.t11 u (by simpa [pupd] using hu)
   refine ⟨g, e, hg, pbox_kept hc f (fun eg => ?_)⟩
   subst eg
   have h1 := hm h9
   unfold MBox at h1
   rw [h1] at hc
   simp [lval0] at hc }

theorem LkA.call10 (h : LkA w gm A BV st wx) (f : Fr (fun _ => False) wx wy) {v : Value} (hv : VShows (fun k => wx.heap.size <= k) wy BV v) : LkA w gm A BV (pupd st 10 v) wy :=
 have hl := h.later f
 {fr := hl.fr
  t5 := fun u hu => by
   obtain ⟨b, e, hb, hm⟩ := hl.t5 u (by simpa [pupd] using hu)
   exact ⟨b, e, hb, fun hn => hm (by simpa [pupd] using hn)⟩
  t8 := fun u hu => by
   rcases hl.t8 u (by simpa [pupd] using hu) with h1 | h1
   ·exact .inl (RShows.mono (fun k hk h2 => ⟨hk, fun e => h2.2 (by simpa [pupd] using e)⟩) _ _ h1)
   ·exact .inr (by simpa [pupd] using h1)
  t9 := fun u hu => hl.t9 u (by simpa [pupd] using hu)
  t10 := fun u hu => by
   have e : v = u := by simpa [pupd] using hu
   subst e
   refine VShows.mono (fun k hk h2 => ⟨hk, fun e => ?_⟩) _ _ hv
   obtain ⟨g, eg, hg, hc⟩ := h.t11 (pptr k) (by simpa [pupd] using e)
   have := pptr_inj eg
   have := lt_of_block hc
   omega
  t11 := fun u hu => hl.t11 u (by simpa [pupd] using hu) }

theorem LkA.alloc11 (h : LkA w gm A BV st wx) : LkA w gm A BV (pupd st 11 (pptr wx.heap.size)) (wx.alloc (.cells lval0 44)) :=
 have f : Fr (fun _ => False) wx (wx.alloc (.cells lval0 44)) := (Fr.refl _ _).alloc _
 have hl := h.later f
 {fr := hl.fr
  t5 := fun u hu => by
   obtain ⟨b, e, hb, hm⟩ := hl.t5 u (by simpa [pupd] using hu)
   exact ⟨b, e, hb, fun hn => hm (by simpa [pupd] using hn)⟩
  t8 := fun u hu => by
   rcases hl.t8 u (by simpa [pupd] using hu) with h1 | h1
   ·exact .inl (RShows.mono (fun k hk h2 => ⟨hk, fun e => h2.2 (by simpa [pupd] using e)⟩) _ _ h1)
   ·exact .inr (by simpa [pupd] using h1)
  t9 := fun u hu => hl.t9 u (by simpa [pupd] using hu)
  t10 := fun u hu => VShows.fr f fid2 _ _ (VShows.mono (fun k hk h2 => ⟨Nat.lt_of_lt_of_le h2.1 f.size, fun e => by
   have e' : pptr wx.heap.size = pptr k := by simpa [pupd] using e
   have := pptr_inj e'
   have := h2.1
   omega⟩) _ _ (h.t10 u (by simpa [pupd] using hu)))
  t11 := fun u hu => by
   have e : pptr wx.heap.size = u := by simpa [pupd] using hu
   subst e
   exact ⟨_, rfl, h.fr.size, heap_alloc_new _ _⟩ }

theorem LkA.store12 (h : LkA w gm A BV st wx) {g : Nat} {x0 x1 x2 x3 u : Value} (h10 : st 10 = some (.agg #[x0, x1, x2, x3])) (h11 : st 11 = some (pptr g)) :
  LkS w gm A BV (pupd st 12 u) (wx.setRow g #[x0, x1, x2, x3]) := by
 unfold LkS
 rw [pupd_at]
 obtain ⟨g', eg, hg, hc⟩ := h.t11 _ h11
 obtain rfl := pptr_inj eg
 have fs : Fr (fun k => k = g) wx (wx.setRow g #[x0, x1, x2, x3]) := Fr.setRow (S := fun k => k = g) (Fr.refl _ _) (fun _ => rfl) _
 refine ⟨g, by simpa [pupd] using h11, Fr.new h.fr (fun k hk => by omega) fs, hg, x0, x1, x2, x3, setRow_heap _ _ _ _ _ _ hc, ?_⟩
 exact VShows.mono (fun _ _ _ => trivial) _ _ (VShows.fr fs (fun k (hk : k < wx.heap.size /\ st 11 ≠ some (pptr k)) e => hk.2 (by rw [e]; exact h11)) _ _ (h.t10 _ h10))
end
end
section

end
end Go.Proofs.Ytohfejpjjjaejaa
