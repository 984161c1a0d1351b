/-
  PlayPlays, part 13 of what it rests on: PlayPlaysLaw, PlayPlaysArg.
-/
import Derived.Test.YtohfejpjjjaejaaSl
import Derived.Deep.Cut
import Derived.Deep.CutRange
import Derived.Deep.LoopGhost
set_option linter.unusedVariables false
set_option linter.unusedSimpArgs false
set_option maxHeartbeats 32000000
namespace Go.Proofs.Ytohfejpjjjaejaa
open Go.RowKit
open Go.Lib (hid)
section
def Q7 (wb : World) (t : KT) (T : VT) (F : List Int) : List Value -> World -> Prop
 | [], wx => Fr (fun _ => False) wb wx
 | [a], wx => Fr (fun _ => False) wb wx /\ RShows (fun k => k < wx.heap.size) wx t a
 | [a, b], wx => Fr (fun _ => False) wb wx /\ RShows (fun k => k < wx.heap.size) wx t a /\ VShows (fun k => k < wx.heap.size) wx T b
 | [_, _, c], wx => Fr (fun _ => False) wb wx /\ IOwn wb.heap.size wx c F
 | [_, _, _, d], wx => Fr (fun _ => False) wb wx /\ IOwn wb.heap.size wx d F
 | _, _ => False

theorem Q7.fr {wb wx : World} {t : KT} {T : VT} {F : List Int} : ∀ {c : List Value}, Q7 wb t T F c wx -> Fr (fun _ => False) wb wx
 | [], h => h
 | [_], h => h.1
 | [_, _], h => h.1
 | [_, _, _], h => h.1
 | [_, _, _, _], h => h.1
 | _ :: _ :: _ :: _ :: _ :: _, h => h.elim

theorem qfr0 {a b c : World} (h : Fr (fun _ => False) a b) (k : Fr (fun _ => False) b c) : Fr (fun _ => False) a c := h.trans k fid2

def Q16 (w0 : World) (gm : Nat) (m : RM) : List Value -> World -> Prop
 | [], wx => Fr (fun _ => False) w0 wx
 | _, wx => Fr (fun k => k = gm) w0 wx /\ RMAt wx gm m

theorem PSees.frlt {S : Nat -> Prop} {w w' : World} {v : Value} {l : List Ins} (h : PSees w v l) (hf : Fr S w w') (hS : ∀ k, k < w.heap.size -> ¬ S k) : PSees w' v l := by
 rcases h with h | ⟨g, cap, rfl, hle, hc⟩
 ·exact .inl h
 ·refine .inr ⟨g, cap, rfl, hle, fun i x hx => ?_⟩
  obtain ⟨h0, h1, h2, h3, h4, h5⟩ := hc i x hx
  have hg : g < w.heap.size := World.block_lt_of_cell? w _ h1
  exact ⟨h0, (hf.cell hg (hS g hg)).trans h1, (hf.cell hg (hS g hg)).trans h2, (hf.cell hg (hS g hg)).trans h3, (hf.cell hg (hS g hg)).trans h4, (hf.cell hg (hS g hg)).trans h5⟩

theorem plays_run (l : List Ins) (a : Option Addr) (c : Nat) (g : Nat) (s : Nat -> Int) (fl : List Int) (w : World) (hs : ISees w (.slice a l.length c) l) (hf : ∀ x ∈ l, x.Fits) (hc : pcheckE l = 0) (hm : RMAt w g (rmL s fl)) (hv : ∀ k, (Value.slice a l.length c).ownBlock = some k -> k ≠ g) :
  Calls Try.prog 11 #[.pointer (some ⟨g, 0, none⟩), .slice a l.length c, .int .i64 0, .int .i64 l.length] w fun e w' => e = .returned (.tuple #[]) /\ ∃ m', RMAt w' g m' /\ Fr (fun k => k = g) w w' /\
   RMpost (runE (sumE fl) 1 l (loadE s fl)) (rmL s fl) m' := by
 have h := run_all 1 l (.slice a l.length c) g 0 l.length (rmL s fl) w hs (ops_check l hc) (by omega) (by rw [List.drop_zero, List.take_length]; exact well_check l hf hc) hm (fun _ => rfl) hv
 rw [Nat.zero_add] at h
 refine h.mono ?_
 rintro e w' ⟨h1, m', h2, h3, h4⟩
 refine ⟨h1, m', h2, h3, ?_⟩
 rw [if_neg (by simp [rmL]), List.drop_zero, List.take_length] at h4
 rw [runE_steps]
 exact h4

def QF (w0 : World) : List Value -> World -> Prop := fun _ wx => Fr (fun _ => False) w0 wx

theorem same_oc (o : OC) {R : Nat -> Prop} {w : World} {v : Value} (h : VShows R w o.v v) : sameO o o = true := by
 unfold sameO
 simp [sameV_refl _ _ _ _ h]

attribute [local go_sem] run_store_float

set_option maxRecDepth 100000 in
theorem plays_walk (x : S11) (a0 a1 a2 b0 b1 b2 pv av : Value) (w : World) (hx : S11Shows w x a0 a1 a2 b0 b1 b2 pv av) (hli : lightS x = true) :
  Calls Try.prog 3 #[.agg (s11C x.st a0 a1 a2 b0 b1 b2 pv av)] w fun e w' => e = .returned (.bool true) /\ Fr (fun _ => False) w w' := by
 have HX := hid hx
 have HLI := hid hli
 have hargs : x.args.length <= 40 := by
  unfold lightS at hli
  simp at hli
  exact hli.2.2.2
 have HARG := hid hargs
 clear hx hli hargs
 simp only [s11C]
 go_enter Try.func3, Try.ntmps3
 go_wp2_with fail
 refine (pawake_any _).mono ?_
 rintro e w1 ⟨rfl, f1⟩
 have F1 : Hid (Fr (fun _ => False) w w1 /\ w1.heap[w.heap.size]? = some (.cells (s11C x.st a0 a1 a2 b0 b1 b2 pv av) 30 (0, 0))) := hid ⟨((Fr.refl (fun _ => False) _).alloc _).trans f1 fid2, pbox_kept (heap_alloc_new w _) f1 (fun h => h)⟩
 generalize hn : w.heap.size = n0 at *
 have N0 := hid hn
 clear f1 hn
 have HCELLS := hid (fun wx (f : Fr (fun _ => False) w1 wx) => pbox_kept F1.out.2 f (fun h => h))
 have qq := HCELLS.out w1 (Fr.refl _ _)
 have c0 : w1.cell? ⟨n0, 0, none⟩ = some a0 := pcells_row qq 0 _ rfl
 have c1 : w1.cell? ⟨n0, 1, none⟩ = some a1 := pcells_row qq 1 _ rfl
 have c2 : w1.cell? ⟨n0, 2, none⟩ = some a2 := pcells_row qq 2 _ rfl
 have c3 : w1.cell? ⟨n0, 3, none⟩ = some b0 := pcells_row qq 3 _ rfl
 have c4 : w1.cell? ⟨n0, 4, none⟩ = some b1 := pcells_row qq 4 _ rfl
 have c5 : w1.cell? ⟨n0, 5, none⟩ = some b2 := pcells_row qq 5 _ rfl
 have c6 : w1.cell? ⟨n0, 6, none⟩ = some pv := pcells_row qq 6 _ rfl
 have c7 : w1.cell? ⟨n0, 7, none⟩ = some (.int .i64 (x.st 0)) := pcells_row qq 7 _ rfl
 have c8 : w1.cell? ⟨n0, 8, none⟩ = some (.int .i64 (x.st 1)) := pcells_row qq 8 _ rfl
 have c9 : w1.cell? ⟨n0, 9, none⟩ = some (.int .i64 (x.st 2)) := pcells_row qq 9 _ rfl
 have c10 : w1.cell? ⟨n0, 10, none⟩ = some (.int .i64 (x.st 3)) := pcells_row qq 10 _ rfl
 have c11 : w1.cell? ⟨n0, 11, none⟩ = some (.int .i64 (x.st 4)) := pcells_row qq 11 _ rfl
 have c12 : w1.cell? ⟨n0, 12, none⟩ = some (.int .i64 (x.st 5)) := pcells_row qq 12 _ rfl
 have c13 : w1.cell? ⟨n0, 13, none⟩ = some (.int .i64 (x.st 6)) := pcells_row qq 13 _ rfl
 have c14 : w1.cell? ⟨n0, 14, none⟩ = some (.int .i64 (x.st 7)) := pcells_row qq 14 _ rfl
 have c15 : w1.cell? ⟨n0, 15, none⟩ = some av := pcells_row qq 15 _ rfl
 clear qq
 go_wp2_with fail
 refine (slight_any x a0 a1 a2 b0 b1 b2 pv av w1 (HX.out.fr F1.out.1)).mono ?_
 rintro e w2 ⟨rfl, f2⟩
 rw [HLI.out]
 have FX0 := hid (F1.out.1.trans f2 fid2)
 have FX1 := hid f2
 clear f2 c0 c1 c2 c3 c4 c5 c6 c7 c8 c9 c10 c11 c12 c13 c14 c15
 have qq := HCELLS.out w2 FX1.out
 have c0 : w2.cell? ⟨n0, 0, none⟩ = some a0 := pcells_row qq 0 _ rfl
 have c1 : w2.cell? ⟨n0, 1, none⟩ = some a1 := pcells_row qq 1 _ rfl
 have c2 : w2.cell? ⟨n0, 2, none⟩ = some a2 := pcells_row qq 2 _ rfl
 have c3 : w2.cell? ⟨n0, 3, none⟩ = some b0 := pcells_row qq 3 _ rfl
 have c4 : w2.cell? ⟨n0, 4, none⟩ = some b1 := pcells_row qq 4 _ rfl
 have c5 : w2.cell? ⟨n0, 5, none⟩ = some b2 := pcells_row qq 5 _ rfl
 have c6 : w2.cell? ⟨n0, 6, none⟩ = some pv := pcells_row qq 6 _ rfl
 have c7 : w2.cell? ⟨n0, 7, none⟩ = some (.int .i64 (x.st 0)) := pcells_row qq 7 _ rfl
 have c8 : w2.cell? ⟨n0, 8, none⟩ = some (.int .i64 (x.st 1)) := pcells_row qq 8 _ rfl
 have c9 : w2.cell? ⟨n0, 9, none⟩ = some (.int .i64 (x.st 2)) := pcells_row qq 9 _ rfl
 have c10 : w2.cell? ⟨n0, 10, none⟩ = some (.int .i64 (x.st 3)) := pcells_row qq 10 _ rfl
 have c11 : w2.cell? ⟨n0, 11, none⟩ = some (.int .i64 (x.st 4)) := pcells_row qq 11 _ rfl
 have c12 : w2.cell? ⟨n0, 12, none⟩ = some (.int .i64 (x.st 5)) := pcells_row qq 12 _ rfl
 have c13 : w2.cell? ⟨n0, 13, none⟩ = some (.int .i64 (x.st 6)) := pcells_row qq 13 _ rfl
 have c14 : w2.cell? ⟨n0, 14, none⟩ = some (.int .i64 (x.st 7)) := pcells_row qq 14 _ rfl
 have c15 : w2.cell? ⟨n0, 15, none⟩ = some av := pcells_row qq 15 _ rfl
 clear qq
 go_wp2_with fail
 refine (body_make x a0 a1 a2 b0 b1 b2 pv av w2 (HX.out.fr FX0.out) HARG.out).mono ?_
 rintro e w6 ⟨⟨x0, x1, x2, x3, y0, y1, y2, y3, pb, lb, v0, v1, v2, v3, rfl, hT, hA, hlb, hpb, hkb, hV⟩, f6⟩
 obtain ⟨r0, r1, r2, r3, r4, r5, r6, r7, eT⟩ := hT.four
 obtain ⟨s0, s1, s2, s3, s4, s5, s6, s7, eA⟩ := hA.four
 obtain ⟨zn, zf, zs, za, zc, zcap, eV⟩ := hV.lit
 obtain ⟨ua', uc', eP, hzP⟩ := hpb.shape
 clear hzP
 simp at eT eA eV
 obtain ⟨rfl, rfl, rfl, rfl⟩ := eT
 obtain ⟨rfl, rfl, rfl, rfl⟩ := eA
 obtain ⟨rfl, rfl, rfl, rfl⟩ := eV
 subst eP
 have F6 := hid f6
 have HTAV := hid (And.intro hT (And.intro hA hV))
 have HP := hid (And.intro hlb (And.intro hpb hkb))
 clear hT hA hlb hpb hkb hV f6 c0 c1 c2 c3 c4 c5 c6 c7 c8 c9 c10 c11 c12 c13 c14 c15
 obtain ⟨w7, hw7⟩ : ∃ w7, w7 = (w6.alloc (.cells #[.int .u8 r0, .int .i64 r1, .slice r2 r3 r4, .slice r5 r6 r7, .int .u8 s0, .int .i64 s1, .slice s2 s3 s4, .slice s5 s6 s7, .slice ua' lb.length uc'] 40)).alloc (.cells #[.int .i64 zn, .float .f64 zf, .string zs, .slice za zc zcap] 44) := ⟨_, rfl⟩
 have F7 : Hid (Fr (fun _ => False) w6 w7 /\ w7.heap[w6.heap.size]? = some (.cells #[.int .u8 r0, .int .i64 r1, .slice r2 r3 r4, .slice r5 r6 r7, .int .u8 s0, .int .i64 s1, .slice s2 s3 s4, .slice s5 s6 s7, .slice ua' lb.length uc'] 40 (0, 0)) /\ w7.heap[w6.heap.size + 1]? = some (.cells #[.int .i64 zn, .float .f64 zf, .string zs, .slice za zc zcap] 44 (0, 0))) := hid (by
  have f : ∀ (w : World) (o : Obj), Fr (fun _ => False) w (w.alloc o) := fun w o => (Fr.refl _ _).alloc _
  rw [hw7]
  exact ⟨(f _ _).alloc _, pbox_kept (heap_alloc_new _ _) (f _ _) (fun h => h), new_two _ _ _⟩)
 go_upto_region 6 with fail
 rw [<- hw7]
 clear hw7
 generalize hgb : w6.heap.size = gb at *
 have GB := hid hgb
 clear hgb
 obtain ⟨w8, hw8⟩ : ∃ w8, w8 = w7.alloc (.cells #[.int .i64 0, .int .i64 0, .int .i64 0, .int .i64 0, .int .i64 0, .int .i64 0, .int .i64 0, .int .i64 0, .int .i64 0, .int .i64 0, .int .i64 0, .int .i64 0, .int .i64 0, .int .i64 0, .int .i64 0, .int .i64 0, .int .i64 0, .bool false, .int .i64 0, .int .i64 0] 50) := ⟨_, rfl⟩
 have F8 : Hid (Fr (fun _ => False) w7 w8 /\ RMAt w8 w7.heap.size ⟨fun _ => 0, 0, false, 0, 0⟩ /\ w8.heap.size = w7.heap.size + 1) := hid (by
  rw [hw8]
  exact ⟨(Fr.refl _ _).alloc _, heap_alloc_new _ _, World.size_alloc _ _⟩)
 have hgv : gb + 1 < w7.heap.size := lt_of_block F7.out.2.2
 go_upto_region 7 with fail
 rw [<- hw8]
 clear hw8
 generalize hgm : w7.heap.size = gm at *
 have GM := hid (And.intro hgm hgv)
 clear hgm hgv
 have F68 : Hid (Fr (fun _ => False) w6 w8) := hid (F7.out.1.trans F8.out.1 fid2)
 have HB8 : Hid (w8.heap[gb]? = some (.cells #[.int .u8 r0, .int .i64 r1, .slice r2 r3 r4, .slice r5 r6 r7, .int .u8 s0, .int .i64 s1, .slice s2 s3 s4, .slice s5 s6 s7, .slice ua' lb.length uc'] 40 (0, 0)) /\ w8.heap[gb + 1]? = some (.cells #[.int .i64 zn, .float .f64 zf, .string zs, .slice za zc zcap] 44 (0, 0))) := hid ⟨pbox_kept F7.out.2.1 F8.out.1 (fun h => h), pbox_kept F7.out.2.2 F8.out.1 (fun h => h)⟩
 obtain ⟨TY, hTY⟩ : ∃ TY, typeE [] x.takes 4 = TY := ⟨_, rfl⟩
 obtain ⟨AY, hAY⟩ : ∃ AY, typeE [] x.answers 4 = AY := ⟨_, rfl⟩
 have HGT : Hid (goodE TY /\ goodE AY) := hid ⟨hTY ▸ (good_type x.takes 4 (by omega) (NShows.vok _ _ HX.out.t)).1, hAY ▸ (good_type x.answers 4 (by omega) (NShows.vok _ _ HX.out.a)).1⟩
 have HCO : Hid (costE TY <= 256 /\ costE AY <= 256) := hid ⟨hTY ▸ cost_typeE [] x.takes 4, hAY ▸ cost_typeE [] x.answers 4⟩
 have HBT := hid (build_type x.args x.takes 4 (by omega) (by omega) (NShows.vok _ _ HX.out.t))
 have HBA := hid (fun l => build_type l x.answers 4 (by omega) (by omega) (NShows.vok _ _ HX.out.a))
 rw [hTY] at HTAV HBT
 rw [hAY] at HTAV HBA
 clear hTY hAY
 obtain ⟨T, hT⟩ : ∃ T, BuildE x.args TY = T := ⟨_, rfl⟩
 rw [hT] at HTAV HBT
 clear hT
 have HSZ : Hid (szV T <= 256) := hid (by
  rw [HBT.out.1]
  exact Nat.le_trans (build_le _ TY HGT.out.1 (0, 0)).2 HCO.out.1)
 have HIS : Hid (isE TY T = true) := hid (by
  have := HBT.out.2
  unfold isVal at this
  rw [Bool.and_eq_true] at this
  rw [<- fits_is TY HGT.out.1 T]
  exact this.2)
 obtain ⟨F, hF⟩ : ∃ F, flE TY T = F := ⟨_, rfl⟩
 have HF : Hid (flE TY T = F /\ F.length <= 512 /\ ∀ x ∈ F, -9223372036854775808 <= x /\ x <= 9223372036854775807) := hid ⟨hF, by have := fl_len TY T; have := HSZ.out; rw [<- hF]; omega, by rw [<- hF]; exact fl_in _ _ _ _ _ HTAV.out.2.2⟩
 clear hF
 have HTV : Hid (Shows (fun k => k < w8.heap.size) w8 TY (.agg #[.int .u8 r0, .int .i64 r1, .slice r2 r3 r4, .slice r5 r6 r7]) /\ Shows (fun k => k < w8.heap.size) w8 AY (.agg #[.int .u8 s0, .int .i64 s1, .slice s2 s3 s4, .slice s5 s6 s7]) /\ VShows (fun k => k < w8.heap.size) w8 T (.agg #[.int .i64 zn, .float .f64 zf, .string zs, .slice za zc zcap])) := hid ⟨
  Shows.mono (fun k hk _ => hk) _ _ (Shows.fr F68.out (fun k hk h => h) _ _ HTAV.out.1),
  Shows.mono (fun k hk _ => hk) _ _ (Shows.fr F68.out (fun k hk h => h) _ _ HTAV.out.2.1),
  VShows.mono (fun k hk _ => hk) _ _ (VShows.fr F68.out (fun k hk h => h) _ _ HTAV.out.2.2)⟩
 refine wp_region_chain (by kernel_rfl) [some 26, some 27, some 28, some 29, some 30, some 31, some 6] rfl (by decide) (by intro d hd; simp at hd ⊢; omega)
  [2, 4, 5, 6] (fun cvs wx => Q7 w8 TY T F cvs wx)
  [.free (.pointer (some ⟨gb, 0, none⟩)), .free (.agg #[.int .u8 r0, .int .i64 r1, .slice r2 r3 r4, .slice r5 r6 r7]), .link none, .free (.agg #[.int .i64 zn, .float .f64 zf, .string zs, .slice za zc zcap]), .link none, .link none, .link none]
  (by kernel_rfl) (by kernel_rfl) ?h7 ?step7 ?fin7
 case h7 => exact (Fr.refl _ _).drew
 case step7 =>
  intro vals
  simp only [frOfU, fillU, zsl]
  repeat' (first | exact AllOps.nil | refine AllOps.cons ?_ ?_)
  all_goals
   intro cvs wx hS he hu hlim Kc hK
   simp only [Act.put, zsl, zgl] at hK
   simp only [zml, Region.binds, forall_const, vmode_gc, Bool.false_eq_true, false_imp_iff, zgl, OpSort.val, Option.some.injEq, forall_eq', reduceCtorEq, implies_true, true_and, and_true] at he
   have hfr := Q7.fr hS
   have qq := pbox_kept HB8.out.1 hfr (fun h => h)
   have d0 : wx.cell? ⟨gb, 0, none⟩ = some (.int .u8 r0) := pcells_row qq 0 _ rfl
   have d1 : wx.cell? ⟨gb, 1, none⟩ = some (.int .i64 r1) := pcells_row qq 1 _ rfl
   have d2 : wx.cell? ⟨gb, 2, none⟩ = some (.slice r2 r3 r4) := pcells_row qq 2 _ rfl
   have d3 : wx.cell? ⟨gb, 3, none⟩ = some (.slice r5 r6 r7) := pcells_row qq 3 _ rfl
   have d4 : wx.cell? ⟨gb, 4, none⟩ = some (.int .u8 s0) := pcells_row qq 4 _ rfl
   have d5 : wx.cell? ⟨gb, 5, none⟩ = some (.int .i64 s1) := pcells_row qq 5 _ rfl
   have d6 : wx.cell? ⟨gb, 6, none⟩ = some (.slice s2 s3 s4) := pcells_row qq 6 _ rfl
   have d7 : wx.cell? ⟨gb, 7, none⟩ = some (.slice s5 s6 s7) := pcells_row qq 7 _ rfl
   have d8 : wx.cell? ⟨gb, 8, none⟩ = some (.slice ua' lb.length uc') := pcells_row qq 8 _ rfl
   clear qq
   have qq := pbox_kept HB8.out.2 hfr (fun h => h)
   have e0 : wx.cell? ⟨gb + 1, 0, none⟩ = some (.int .i64 zn) := pcells_row qq 0 _ rfl
   have e1 : wx.cell? ⟨gb + 1, 1, none⟩ = some (.float .f64 zf) := pcells_row qq 1 _ rfl
   have e2 : wx.cell? ⟨gb + 1, 2, none⟩ = some (.string zs) := pcells_row qq 2 _ rfl
   have e3 : wx.cell? ⟨gb + 1, 3, none⟩ = some (.slice za zc zcap) := pcells_row qq 3 _ rfl
   clear qq
   have HSX := hid hS
   clear hS
  all_goals first | (clear hlim hu; (try simp only [he] at hK ⊢); go_simp; exact hK) | skip
  ·obtain rfl := hlim (0 : Nat) rfl
   have h1 : Fr (fun _ => False) w8 wx := HSX.out
   have H1' := hid h1
   clear hlim hu HSX h1 hfr d0 d1 d2 d3 d4 d5 d6 d7 d8 e0 e1 e2 e3
   simp only [he] at hK ⊢
   go_simp
   go_at_call 8
   refine (ref_any TY _ _ wx (Shows.fr H1'.out fid2 _ _ HTV.out.1) HGT.out.1).mono ?_
   rintro er wa ⟨a1, rfl, hr, fa⟩
   exact hK _ _ (fun _ h => by cases h) ⟨qfr0 H1'.out fa, RShows.mono (fun k hk _ => hk) _ _ hr⟩
  ·obtain rfl := hlim (1 : Nat) rfl
   have h1 : Fr (fun _ => False) w8 wx /\ RShows (fun k => k < wx.heap.size) wx TY (vals 2) := HSX.out
   have H1' := hid h1
   clear hlim hu HSX h1 hfr d0 d1 d2 d3 d4 d5 d6 d7 d8 e0 e1 e2 e3
   simp only [he] at hK ⊢
   go_simp
   go_at_call 9
   refine (refv_any T _ _ wx (VShows.fr H1'.out.1 fid2 _ _ HTV.out.2.2) (by have := HSZ.out; omega)).mono ?_
   rintro er wa ⟨a1, rfl, hr, fa⟩
   exact hK _ _ (fun _ h => by cases h) ⟨qfr0 H1'.out.1 fa, RShows.mono (fun k hk _ => hk) _ _ (RShows.fr fa fid2 _ _ H1'.out.2), VShows.mono (fun k hk _ => hk) _ _ hr⟩
  ·obtain rfl := hlim (2 : Nat) rfl
   have h1 : Fr (fun _ => False) w8 wx /\ RShows (fun k => k < wx.heap.size) wx TY (vals 2) /\ VShows (fun k => k < wx.heap.size) wx T (vals 4) := HSX.out
   have H1' := hid h1
   clear hlim hu HSX h1 hfr d0 d1 d2 d3 d4 d5 d6 d7 d8 e0 e1 e2 e3
   (try simp only [he] at hK ⊢)
   go_simp
   go_at_call 7
   refine (rflat_any TY _ _ _ wx T HGT.out.1 H1'.out.2.1 H1'.out.2.2 HIS.out (by have := HSZ.out; omega)).mono ?_
   rintro er wa ⟨a1, rfl, ho, fa⟩
   exact hK _ _ (fun _ h => by cases h) ⟨qfr0 H1'.out.1 fa, by rw [HF.out.1] at ho; exact ho.le H1'.out.1.size⟩
  ·obtain rfl := hlim (3 : Nat) rfl
   have h1 : Fr (fun _ => False) w8 wx /\ IOwn w8.heap.size wx (vals 5) F := HSX.out
   have H1' := hid h1
   clear hlim hu HSX h1 hfr d0 d1 d2 d3 d4 d5 d6 d7 d8 e0 e1 e2 e3
   (try simp only [he] at hK ⊢)
   go_simp
   exact hK _ _ (fun _ h => by cases h) H1'.out
 case fin7 =>
 intro vals w9 hS hV
 have v0 := hV 0 _ (by decide) rfl
 have v1 := hV 1 _ (by decide) rfl
 have v3 := hV 3 _ (by decide) rfl
 clear hV
 simp only [frOfU, fillU, zsl]
 simp only [Nat.reduceAdd, v0, v1, v3]
 clear v0 v1 v3
 have h9 : Fr (fun _ => False) w8 w9 /\ IOwn w8.heap.size w9 (vals 6) F := hS
 clear hS
 generalize vals 6 = u6 at *
 generalize vals 5 = u31 at *
 generalize vals 4 = u30 at *
 generalize vals 2 = u28 at *
 obtain ⟨fa, fc, rfl⟩ := slice_of_own h9.2
 have F9 := hid h9
 clear h9
 obtain ⟨nF, hnF⟩ : ∃ nF, F.length = nF := ⟨_, rfl⟩
 rw [hnF]
 have HN := hid hnF
 clear hnF
 have HNA := hid (nums_own F9.out.2 (by have := HF.out.2.1; omega))
 have HNE : Hid (∀ k, (Value.slice fa F.length fc).ownBlock = some k -> k ≠ gm) := hid (fun k hk => by have h1 := F9.out.2.ge hk; have h2 := lt_of_block F8.out.2.1; omega)
 have F0 : Hid (RMAt w9 gm (rmJ F 0)) := hid ((F8.out.2.1.fr F9.out.1 (fun h => h)).congr (rmJ_zero F).symm)
 have hn5 : nF <= 512 := by have := HF.out.2.1; have := HN.out; omega
 go_upto_region 8 with fail
 go_wp2_with fail
 go_loopg [7, 8, 34] nF (fun G u7 u8 u34 wr => ∃ (j : Nat), j <= nF /\ G = nF - j /\ u34 = .int .i64 j /\ Hid (RMAt wr gm (rmJ F j) /\ Fr (fun k => k = gm) w9 wr))
 case atStart => exact ⟨0, by omega, rfl, rfl, hid ⟨F0.out, Fr.refl _ _⟩⟩
 case round =>
  obtain ⟨j, hj, rfl, rfl, HI⟩ := hrel
  clear F0
  by_cases hlt : j < nF
  ·obtain ⟨y, hy⟩ : ∃ y, F[j]? = some y := ⟨_, List.getElem?_eq_getElem (by have := HN.out; omega)⟩
   obtain ⟨gr, orr, cr, rfl, hcell⟩ : ∃ gr orr cr, fa = some ⟨gr, orr, none⟩ /\ wr.cell? ⟨gr, orr + j, none⟩ = some (.int .i64 y) /\ cr = 0 := by
    rcases HNA.out.2 with ⟨h0, _⟩ | ⟨b, o, cap, hB, e, hle, hc⟩
    ·rw [h0] at hy; cases hy
    ·simp only [Value.slice.injEq] at e
     refine ⟨b, o, 0, e.1, ?_, rfl⟩
     have h1 := hc j y hy
     have hne : b ≠ gm := HNE.out b (by rw [e.1]; rfl)
     rw [HI.out.2.cell (World.block_lt_of_cell? _ _ h1) hne]
     exact h1
   have HY := hid hy
   clear hy
   obtain ⟨m, hm⟩ : ∃ m, rmJ F j = m := ⟨_, rfl⟩
   rw [hm] at HI
   have HM := hid hm
   clear hm
   have h16 := HI.out.1.rest.1
   have hfz := HI.out.1.frozen
   have hlt' : (j : Int) < (nF : Int) := by omega
   by_cases h64 : j < 64
   ·have h64' : (j : Int) < 64 := by omega
    go_upto_region 13 with fail
    obtain ⟨w1, hw1⟩ : ∃ w1, w1 = wr.setCell ⟨gm, 16, none⟩ (.int .i64 (wrap64 (m.s + y))) := ⟨_, rfl⟩
    have HW1 : Hid (RMAt w1 gm { m with s := wrap64 (m.s + y) } /\ Fr (fun k => k = gm) w9 w1) := hid (by
     rw [hw1]
     exact ⟨HI.out.1.setSum _, Fr.setCell (S := fun k => k = gm) (p := ⟨gm, 16, none⟩) HI.out.2 (fun _ => rfl) _⟩)
    rw [<- hw1]
    clear hw1 hcell h16 hfz
    have hfz := HW1.out.1.frozen
    by_cases h8 : j < 8
    ·have h8' : (j : Int) < 8 := by omega
     have hcj := HW1.out.1.cell (8 + j) (by omega)
     go_upto_region 15 with fail
     obtain ⟨w2, hw2⟩ : ∃ w2, w2 = w1.setCell ⟨gm, 8 + j, none⟩ (.int .i64 y) := ⟨_, rfl⟩
     have HW2 : Hid (RMAt w2 gm { m with s := wrap64 (m.s + y), r := upd m.r (8 + j) y } /\ Fr (fun k => k = gm) w9 w2) := hid (by
      rw [hw2]
      exact ⟨HW1.out.1.set (8 + j) (by omega) y, Fr.setCell (S := fun k => k = gm) (p := ⟨gm, 8 + j, none⟩) HW1.out.2 (fun _ => rfl) _⟩)
     rw [<- hw2]
     clear hw2 hfz hcj
     go_wp2_with fail
     go_roundg (nF - (j + 1))
     case measure => omega
     case rel => exact ⟨j + 1, by omega, rfl, by go_num, hid ⟨HW2.out.1.congr (by rw [<- HM.out]; exact rmJ_set F j y HY.out h8), HW2.out.2⟩⟩
    ·have h8' : ¬ (j : Int) < 8 := by omega
     clear hfz
     go_wp2_with fail
     go_roundg (nF - (j + 1))
     case measure => omega
     case rel => exact ⟨j + 1, by omega, rfl, by go_num, hid ⟨HW1.out.1.congr (by rw [<- HM.out]; exact rmJ_add F j y HY.out (by omega) h64), HW1.out.2⟩⟩
   ·have h64' : ¬ (j : Int) < 64 := by omega
    have h8' : ¬ (j : Int) < 8 := by omega
    clear hfz h16
    go_wp2_with fail
    go_roundg (nF - (j + 1))
    case measure => omega
    case rel => exact ⟨j + 1, by omega, rfl, by go_num, hid ⟨HI.out.1.congr (by rw [<- HM.out]; exact rmJ_skip F j (by omega)), HI.out.2⟩⟩
  ·obtain rfl : j = nF := by omega
   have hge : ¬ (j : Int) < (j : Int) := by omega
   go_upto_region 16 with fail

   clear hge
   obtain ⟨w10, rfl⟩ : ∃ w10 : World, w10 = wr := ⟨_, rfl⟩
   have HQ7 : Hid (w7.heap[gb]? = some (.cells #[.int .u8 r0, .int .i64 r1, .slice r2 r3 r4, .slice r5 r6 r7, .int .u8 s0, .int .i64 s1, .slice s2 s3 s4, .slice s5 s6 s7, .slice ua' lb.length uc'] 40 (0, 0)) /\ w7.heap[gb + 1]? = some (.cells #[.int .i64 zn, .float .f64 zf, .string zs, .slice za zc zcap] 44 (0, 0)) /\ w7.heap[n0]? = some (.cells (s11C x.st a0 a1 a2 b0 b1 b2 pv av) 30 (0, 0))) := hid ⟨F7.out.2.1, F7.out.2.2, HCELLS.out w7 ((FX1.out.trans F6.out fid2).trans F7.out.1 fid2)⟩
   have NE : Hid (gb ≠ gm /\ gb + 1 ≠ gm /\ n0 ≠ gm) := hid (by
    have h1 := GM.out
    have h2 := lt_of_block HQ7.out.2.2
    omega)
   have FM10 : Hid (Fr (fun k => k = gm) w7 w10) := hid ((F8.out.1.mono (fun _ _ h => h.elim)).trans ((F9.out.1.mono (fun _ _ h => h.elim)).trans HI.out.2 fid2) fid2)
   have HRM : Hid (RMAt w10 gm (rmJ F F.length)) := hid (by rw [HN.out]; exact HI.out.1)
   have HS7 : Hid (Shows (fun k => k < w7.heap.size) w7 TY (.agg #[.int .u8 r0, .int .i64 r1, .slice r2 r3 r4, .slice r5 r6 r7]) /\ Shows (fun k => k < w7.heap.size) w7 AY (.agg #[.int .u8 s0, .int .i64 s1, .slice s2 s3 s4, .slice s5 s6 s7]) /\ VShows (fun k => k < w7.heap.size) w7 T (.agg #[.int .i64 zn, .float .f64 zf, .string zs, .slice za zc zcap]) /\ PSees w7 (.slice ua' lb.length uc') lb) := hid ⟨
    Shows.mono (fun k hk _ => hk) _ _ (Shows.fr F7.out.1 (fun k hk h => h) _ _ HTAV.out.1),
    Shows.mono (fun k hk _ => hk) _ _ (Shows.fr F7.out.1 (fun k hk h => h) _ _ HTAV.out.2.1),
    VShows.mono (fun k hk _ => hk) _ _ (VShows.fr F7.out.1 (fun k hk h => h) _ _ HTAV.out.2.2),
    HP.out.2.1.fr F7.out.1 fid2⟩
   have FW7 : Hid (Fr (fun _ => False) w w7) := hid (qfr0 FX0.out (qfr0 F6.out F7.out.1))
   obtain ⟨FT, hFT⟩ : ∃ FT, F.take 64 = FT := ⟨_, rfl⟩
   have HFT := hid hFT
   clear hFT hn5 HNA HNE
   refine wp_region_chain (by kernel_rfl) [some 59, some 60, some 61, some 62, some 63, some 64, some 65] rfl (by decide) (by intro d hd; simp at hd ⊢; omega)
    [6] (fun cvs wx => Q16 w10 gm (rmL x.st FT) cvs wx)
    [.free (.pointer (some ⟨gm, 0, none⟩)), .free (.pointer (some ⟨gm, 0, none⟩)), .free (.pointer (some ⟨gm, 0, none⟩)), .free (.slice (some ⟨gm, 0, none⟩) 16 16), .free (.pointer (some ⟨n0, 7, none⟩)), .free (.slice (some ⟨n0, 7, none⟩) 8 8), .link (some (.int .i64 8))]
    (by kernel_rfl) (by kernel_rfl) ?h16 ?step16 ?fin16
   case h16 => exact (Fr.refl _ _).drew
   case step16 =>
    intro vals
    simp only [frOfU, fillU, zsl]
    repeat' (first | exact AllOps.nil | refine AllOps.cons ?_ ?_)
    all_goals
     intro cvs wx hS he hu hlim Kc hK
     simp only [Act.put, zsl, zgl] at hK
     simp only [zml, Region.binds, forall_const, vmode_gc, Bool.false_eq_true, false_imp_iff, zgl, OpSort.val, Option.some.injEq, forall_eq', reduceCtorEq, implies_true, true_and, and_true] at he
     have HSX := hid hS
     clear hS
    all_goals first | (clear hlim hu; (try simp only [he] at hK ⊢); go_simp; exact hK) | skip
    ·obtain rfl := hlim (0 : Nat) rfl
     have h1 : Fr (fun _ => False) w10 wx := HSX.out
     have qq := pbox_kept (pbox_kept HQ7.out.2.2 FM10.out (fun h => NE.out.2.2 h)) h1 (fun h => h)
     obtain ⟨wc, hc, hm, hf⟩ := plays_copy wx gm 3 n0 x.st (rmJ F F.length) (HRM.out.fr h1 (fun h => h)) (fun k hk => by
      rw [cell_of_row wx n0 (7 + k) _ _ _ qq]
      have : k = 0 \/ k = 1 \/ k = 2 \/ k = 3 \/ k = 4 \/ k = 5 \/ k = 6 \/ k = 7 := by omega
      rcases this with rfl | rfl | rfl | rfl | rfl | rfl | rfl | rfl <;> rfl)
     have H1 := hid (And.intro h1 (And.intro (hm.congr (rmJ_load x.st F)) hf))
     clear hlim hu HSX h1 hm hf qq
     simp only [he] at hK ⊢
     go_simp
     exact hK _ _ (fun _ h => by cases h; rfl) ⟨(H1.out.1.mono (fun _ _ h => h.elim)).trans H1.out.2.2 fid2, by rw [<- HFT.out]; exact H1.out.2.1⟩
   case fin16 =>
   intro vals w11 hS hV
   have v0 := hV 0 _ (by decide) rfl
   have v1 := hV 1 _ (by decide) rfl
   have v2 := hV 2 _ (by decide) rfl
   have v3 := hV 3 _ (by decide) rfl
   have v4 := hV 4 _ (by decide) rfl
   have v5 := hV 5 _ (by decide) rfl
   have v6 := hV 6 _ (by decide) rfl
   clear hV
   simp only [frOfU, fillU, zsl]
   simp only [Nat.reduceAdd, v0, v1, v2, v3, v4, v5, v6]
   clear v0 v1 v2 v3 v4 v5 v6
   have h11 : Fr (fun k => k = gm) w10 w11 /\ RMAt w11 gm (rmL x.st FT) := hS
   clear hS
   have F11 : Hid (Fr (fun k => k = gm) w7 w11 /\ RMAt w11 gm (rmL x.st FT)) := hid ⟨FM10.out.trans h11.1 fid2, h11.2⟩
   clear h11
   have qq := pbox_kept HQ7.out.1 F11.out.1 (fun h => NE.out.1 h)
   have d0 : w11.cell? ⟨gb, 0, none⟩ = some (.int .u8 r0) := pcells_row qq 0 _ rfl
   have d1 : w11.cell? ⟨gb, 1, none⟩ = some (.int .i64 r1) := pcells_row qq 1 _ rfl
   have d2 : w11.cell? ⟨gb, 2, none⟩ = some (.slice r2 r3 r4) := pcells_row qq 2 _ rfl
   have d3 : w11.cell? ⟨gb, 3, none⟩ = some (.slice r5 r6 r7) := pcells_row qq 3 _ rfl
   have d4 : w11.cell? ⟨gb, 4, none⟩ = some (.int .u8 s0) := pcells_row qq 4 _ rfl
   have d5 : w11.cell? ⟨gb, 5, none⟩ = some (.int .i64 s1) := pcells_row qq 5 _ rfl
   have d6 : w11.cell? ⟨gb, 6, none⟩ = some (.slice s2 s3 s4) := pcells_row qq 6 _ rfl
   have d7 : w11.cell? ⟨gb, 7, none⟩ = some (.slice s5 s6 s7) := pcells_row qq 7 _ rfl
   have d8 : w11.cell? ⟨gb, 8, none⟩ = some (.slice ua' lb.length uc') := pcells_row qq 8 _ rfl
   clear qq
   go_wp2_with fail
   refine (refins_any _ lb w11 (HS7.out.2.2.2.frlt F11.out.1 (fun k hk e => by have := GM.out; omega)) (by have := HP.out.1.1; omega)).mono ?_
   rintro e w12 ⟨rp, rfl, hsee, f12, hown⟩
   obtain ⟨pa, pc, rfl⟩ : ∃ a c, rp = .slice a lb.length c := by
    rcases hsee.2 with ⟨h0, a, c, rfl⟩ | ⟨g, o, cap, rfl, _⟩
    ·exact ⟨a, c, by rw [h0]; rfl⟩
    ·exact ⟨_, _, rfl⟩
   have hrun := plays_run lb pa pc gm x.st FT w12 hsee HP.out.1.2.1 HP.out.1.2.2 (F11.out.2.fr f12 (fun h => h)) (fun k hk => by have h1 := hown k hk; have h2 := F11.out.2.lt; omega)
   have F12 : Hid (Fr (fun k => k = gm) w7 w12) := hid (F11.out.1.trans (f12.mono (fun _ _ h => h.elim)) fid2)
   clear hsee f12 hown d0 d1 d2 d3 d4 d5 d6 d7 d8
   go_wp2_with fail
   refine hrun.mono ?_
   rintro e w13 ⟨rfl, m', hm13, f13, hpost⟩
   have F13 : Hid (Fr (fun k => k = gm) w7 w13 /\ RMAt w13 gm m') := hid ⟨F12.out.trans f13 fid2, hm13⟩
   have HC : Hid (_ \/ _) := hid (plays_case TY AY lb T x.st m' HP.out.1.2.2 HBT.out.2 (by rw [HF.out.1, HFT.out]; exact hpost))
   clear hrun hm13 f13 hpost
   have qq := pbox_kept HQ7.out.1 F13.out.1 (fun h => NE.out.1 h)
   have d0 : w13.cell? ⟨gb, 0, none⟩ = some (.int .u8 r0) := pcells_row qq 0 _ rfl
   have d1 : w13.cell? ⟨gb, 1, none⟩ = some (.int .i64 r1) := pcells_row qq 1 _ rfl
   have d2 : w13.cell? ⟨gb, 2, none⟩ = some (.slice r2 r3 r4) := pcells_row qq 2 _ rfl
   have d3 : w13.cell? ⟨gb, 3, none⟩ = some (.slice r5 r6 r7) := pcells_row qq 3 _ rfl
   have d4 : w13.cell? ⟨gb, 4, none⟩ = some (.int .u8 s0) := pcells_row qq 4 _ rfl
   have d5 : w13.cell? ⟨gb, 5, none⟩ = some (.int .i64 s1) := pcells_row qq 5 _ rfl
   have d6 : w13.cell? ⟨gb, 6, none⟩ = some (.slice s2 s3 s4) := pcells_row qq 6 _ rfl
   have d7 : w13.cell? ⟨gb, 7, none⟩ = some (.slice s5 s6 s7) := pcells_row qq 7 _ rfl
   have d8 : w13.cell? ⟨gb, 8, none⟩ = some (.slice ua' lb.length uc') := pcells_row qq 8 _ rfl
   clear qq
   have qq := pbox_kept HQ7.out.2.1 F13.out.1 (fun h => NE.out.2.1 h)
   have e0 : w13.cell? ⟨gb + 1, 0, none⟩ = some (.int .i64 zn) := pcells_row qq 0 _ rfl
   have e1 : w13.cell? ⟨gb + 1, 1, none⟩ = some (.float .f64 zf) := pcells_row qq 1 _ rfl
   have e2 : w13.cell? ⟨gb + 1, 2, none⟩ = some (.string zs) := pcells_row qq 2 _ rfl
   have e3 : w13.cell? ⟨gb + 1, 3, none⟩ = some (.slice za zc zcap) := pcells_row qq 3 _ rfl
   clear qq
   have qq := pbox_kept HQ7.out.2.2 F13.out.1 (fun h => NE.out.2.2 h)
   have c0 : w13.cell? ⟨n0, 0, none⟩ = some (a0) := pcells_row qq 0 _ rfl
   have c1 : w13.cell? ⟨n0, 1, none⟩ = some (a1) := pcells_row qq 1 _ rfl
   have c2 : w13.cell? ⟨n0, 2, none⟩ = some (a2) := pcells_row qq 2 _ rfl
   have c3 : w13.cell? ⟨n0, 3, none⟩ = some (b0) := pcells_row qq 3 _ rfl
   have c4 : w13.cell? ⟨n0, 4, none⟩ = some (b1) := pcells_row qq 4 _ rfl
   have c5 : w13.cell? ⟨n0, 5, none⟩ = some (b2) := pcells_row qq 5 _ rfl
   have c6 : w13.cell? ⟨n0, 6, none⟩ = some (pv) := pcells_row qq 6 _ rfl
   have c7 : w13.cell? ⟨n0, 7, none⟩ = some (.int .i64 (x.st 0)) := pcells_row qq 7 _ rfl
   have c8 : w13.cell? ⟨n0, 8, none⟩ = some (.int .i64 (x.st 1)) := pcells_row qq 8 _ rfl
   have c9 : w13.cell? ⟨n0, 9, none⟩ = some (.int .i64 (x.st 2)) := pcells_row qq 9 _ rfl
   have c10 : w13.cell? ⟨n0, 10, none⟩ = some (.int .i64 (x.st 3)) := pcells_row qq 10 _ rfl
   have c11 : w13.cell? ⟨n0, 11, none⟩ = some (.int .i64 (x.st 4)) := pcells_row qq 11 _ rfl
   have c12 : w13.cell? ⟨n0, 12, none⟩ = some (.int .i64 (x.st 5)) := pcells_row qq 12 _ rfl
   have c13 : w13.cell? ⟨n0, 13, none⟩ = some (.int .i64 (x.st 6)) := pcells_row qq 13 _ rfl
   have c14 : w13.cell? ⟨n0, 14, none⟩ = some (.int .i64 (x.st 7)) := pcells_row qq 14 _ rfl
   have c15 : w13.cell? ⟨n0, 15, none⟩ = some (av) := pcells_row qq 15 _ rfl
   clear qq
   obtain ⟨X, hX⟩ : ∃ X, playE TY AY lb T x.st = X := ⟨_, rfl⟩
   have hlt7 : ∀ k, k < w7.heap.size -> ¬ k = gm := fun k hk e => by have := GM.out; omega
   have P1 := Play_any (fun k => k < w7.heap.size) TY AY lb T x.st _ _ _ _ _ _ _ _ _ _ _ _ _ w13 (HS7.out.2.2.2.frlt F13.out.1 hlt7) HP.out.1.2.1 (by have := HP.out.1.1; omega)
    (Shows.fr F13.out.1 hlt7 _ _ HS7.out.1) (Shows.fr F13.out.1 hlt7 _ _ HS7.out.2.1) (VShows.fr F13.out.1 hlt7 _ _ HS7.out.2.2.1) (by have := HSZ.out; omega) (by have := HCO.out; omega) (fun l => (HBA.out l).2) HX.out.s
   rw [hX] at P1
   simp only [stC] at P1
   have HX2 := hid hX
   have HLT7 := hid hlt7
   clear hX hlt7
   obtain ⟨sx, ox⟩ := X
   go_wp2_with fail
   refine P1.mono ?_
   rintro e w14 ⟨⟨ov, rfl, ho⟩, f14⟩
   obtain ⟨t0, t1, t2, t3, rfl, hv1⟩ := ho
   obtain ⟨pn, pf, ps, pa', pc', pp, e4⟩ := hv1.lit
   simp at e4
   obtain ⟨rfl, rfl, rfl, rfl⟩ := e4
   have F14 := hid (And.intro f14 hv1)
   clear P1 f14 hv1 c0 c1 c2 c3 c4 c5 c6 c7 c8 c9 c10 c11 c12 c13 c14 c15 d0 d1 d2 d3 d4 d5 d6 d7 d8 e0 e1 e2 e3
   simp only [stC]
   obtain ⟨w15, hw15⟩ : ∃ w15, w15 = (w14.alloc (.cells #[.int .i64 (sx 0), .int .i64 (sx 1), .int .i64 (sx 2), .int .i64 (sx 3), .int .i64 (sx 4), .int .i64 (sx 5), .int .i64 (sx 6), .int .i64 (sx 7)] 27)).alloc (.cells #[.int .i64 ox.e, .int .i64 ox.n, .int .i64 pn, .float .f64 pf, .string ps, .slice pa' pc' pp] 65) := ⟨_, rfl⟩
   have F15 : Hid (Fr (fun _ => False) w14 w15 /\ w15.heap[w14.heap.size]? = some (.cells #[.int .i64 (sx 0), .int .i64 (sx 1), .int .i64 (sx 2), .int .i64 (sx 3), .int .i64 (sx 4), .int .i64 (sx 5), .int .i64 (sx 6), .int .i64 (sx 7)] 27 (0, 0)) /\ w15.heap[w14.heap.size + 1]? = some (.cells #[.int .i64 ox.e, .int .i64 ox.n, .int .i64 pn, .float .f64 pf, .string ps, .slice pa' pc' pp] 65 (0, 0))) := hid (by
    have f : ∀ (w : World) (o : Obj), Fr (fun _ => False) w (w.alloc o) := fun w o => (Fr.refl _ _).alloc _
    rw [hw15]
    exact ⟨(f _ _).alloc _, pbox_kept (heap_alloc_new _ _) (f _ _) (fun h => h), new_two _ _ _⟩)
   go_upto_region 20 with fail
   rw [<- hw15]
   clear hw15

   have F1415 : Hid (Fr (fun _ => False) w13 w15) := hid (qfr0 F14.out.1 F15.out.1)
   have FM15 : Hid (Fr (fun k => k = gm) w7 w15 /\ RMAt w15 gm m') := hid ⟨F13.out.1.trans (F1415.out.mono (fun _ _ h => h.elim)) fid2, F13.out.2.fr F1415.out (fun h => h)⟩
   have FW15 : Hid (Fr (fun _ => False) w w15) := hid (Fr.new FW7.out (fun k hk => by have := GM.out; have := FW7.out.size; omega) FM15.out.1)
   generalize hg9 : w14.heap.size = g9 at *
   have G9 := hid (show gm < g9 from by rw [<- hg9]; exact Nat.lt_of_lt_of_le F13.out.2.lt F14.out.1.size)
   clear hg9
   have HV15 : Hid (VShows (fun _ => True) w15 ox.v (.agg #[.int .i64 pn, .float .f64 pf, .string ps, .slice pa' pc' pp])) := hid (VShows.mono (fun _ _ _ => trivial) _ _ (VShows.fr F15.out.1 fid2 _ _ F14.out.2))
   have HQ15 : Hid (w15.heap[gb]? = some (.cells #[.int .u8 r0, .int .i64 r1, .slice r2 r3 r4, .slice r5 r6 r7, .int .u8 s0, .int .i64 s1, .slice s2 s3 s4, .slice s5 s6 s7, .slice ua' lb.length uc'] 40 (0, 0)) /\ w15.heap[n0]? = some (.cells (s11C x.st a0 a1 a2 b0 b1 b2 pv av) 30 (0, 0))) := hid ⟨pbox_kept HQ7.out.1 FM15.out.1 (fun h => NE.out.1 h), pbox_kept HQ7.out.2.2 FM15.out.1 (fun h => NE.out.2.2 h)⟩
   obtain ⟨q0, q1, q2, q3⟩ := FM15.out.2.rest
   rcases HC.out with ⟨r, rb, hr1, hr2, he0, hp⟩ | ⟨en, nn, hme, hmq, h14, hp⟩
   ·subst hr2
    obtain ⟨rfl, rfl⟩ := Prod.mk.inj (HX2.out.symm.trans hp)
    have HRIN := hid (prun_in _ (sum_in _) 1 lb _ rb m'.r HP.out.1.2.1 (load_in x.st _ HX.out.s (fun y hy => HF.out.2.2 y (by rw [<- HF.out.1]; exact List.mem_of_mem_take hy))) hr1)
    have hbv := HBA.out (regs m'.r)
    have hsz : szV (buildE (regs m'.r) AY (0, 0)).1 <= 256 := Nat.le_trans (build_le _ AY HGT.out.2 (0, 0)).2 HCO.out.2
    clear hr1 hp HX2
    generalize hBV : BuildE (regs m'.r) AY = BV at *
    have HBV : Hid ((buildE (regs m'.r) AY (0, 0)).1 = BV /\ isVal AY BV = true /\ szV BV <= 256) := hid ⟨hbv.1.symm, hbv.2, by rw [hbv.1]; exact hsz⟩
    clear hbv hsz hBV
    rw [he0] at q2
    clear he0
    dsimp only at F15 F14 HV15 ⊢
    go_upto_region 22 with fail
    clear q0 q1 q2 q3
    refine wp_region_links (by kernel_rfl) [some 104, some 105, some 106, some 107, some 108, some 109, some 110, some 111, some 112, some 113, some 114, some 12, none] rfl (by decide) (by intro d hd; simp at hd ⊢; omega)
     (fun st wx => LkS w15 gm AY BV st wx)
     [.free (.pointer (some ⟨gm, 0, none⟩)), .free (.pointer (some ⟨gm, 0, none⟩)), .free (.pointer (some ⟨gm, 0, none⟩)), .free (.slice (some ⟨gm, 8, none⟩) 8 8), .free (.agg #[.slice (some ⟨gm, 8, none⟩) 8 8, .int .i64 0, .int .i64 0]), .link none, .free (.pointer (some ⟨gb, 4, none⟩)), .free (.agg #[.int .u8 s0, .int .i64 s1, .slice s2 s3 s4, .slice s5 s6 s7]), .link none, .link none, .link none, .link none, .link none]
     (by kernel_rfl) ?h022 ?step22 ?fin22
    case h022 => exact LkA.toS ⟨(Fr.refl _ _).drew, fun v h => (by cases h), fun v h => (by cases h), fun v h => (by cases h), fun v h => (by cases h), fun v h => (by cases h)⟩ rfl
    case step22 =>
     intro vals
     simp only [frOfU, fillU, zsl]
     repeat' (first | exact AllOps.nil | refine AllOps.cons ?_ ?_)
     all_goals
      intro st wx hS he hu hn Kc hK
      simp only [Act.put, zsl, zgl] at hK
      simp only [zml, Region.binds, forall_const, vmode_gc, Bool.false_eq_true, false_imp_iff, zgl, OpSort.val, OpSort.isLink, Option.some.injEq, forall_eq', reduceCtorEq, implies_true, true_and, and_true] at he
      have qb := pbox_kept HQ15.out.1 hS.fr (fun h => h)
      have d4 := pcells_row qb 4 _ rfl
      have d5 := pcells_row qb 5 _ rfl
      have d6 := pcells_row qb 6 _ rfl
      have d7 := pcells_row qb 7 _ rfl
      clear qb
      have HSX := hid hS
      clear hS
     all_goals first | (clear hu hn; (try simp only [he] at hK ⊢); go_simp; exact hK) | skip
     ·have h9 := (hu 9 (by simp) (by kernel_rfl)).2
      have h12 := (hu 12 (by simp) (by kernel_rfl)).2
      have ha := hid (HSX.out.a h12)
      clear hu hn
      (try simp only [he] at hK ⊢)
      go_simp
      exact hK _ _ (fun _ h => by cases h) (LkA.toS (ha.out.box5 h9) h12)
     ·have h9 := (hu 9 (by simp) (by kernel_rfl)).2
      have h12 := (hu 12 (by simp) (by kernel_rfl)).2
      have ha := hid (HSX.out.a h12)
      clear hu hn
      (try simp only [he] at hK ⊢)
      go_simp
      go_at_call 8
      refine (ref_any AY _ _ wx (Shows.fr (S := fun k => k = gm) (FM15.out.1.trans (ha.out.fr.mono (fun _ _ h => h.elim)) fid2) HLT7.out _ _ HS7.out.2.1) HGT.out.2).mono ?_
      rintro er wa ⟨v', rfl, hr, fa⟩
      exact hK _ _ (fun _ h => by cases h) (LkA.toS (ha.out.call8 fa h9 hr) h12)
     ·have h10 := (hu 10 (by simp) (by kernel_rfl)).2
      have h12 := (hu 12 (by simp) (by kernel_rfl)).2
      have ha := hid (HSX.out.a h12)
      have k5 : st 5 = some (vals 5) := by first | exact he | exact he.1 | exact he.2.1 | exact he.2 | exact he.2.2.1 | exact he.2.2
      have k8 : st 8 = some (vals 8) := by first | exact he | exact he.1 | exact he.2.1 | exact he.2 | exact he.2.2.1 | exact he.2.2
      obtain ⟨b, e5, hb, hm⟩ := ha.out.t5 _ k5
      rcases ha.out.t8 _ k8 with hr8 | hbad
      case inr => exact absurd hn hbad
      have k5' : st 5 = some (pptr b) := by rw [k5, e5]
      have hgb : gm < b := by have := FM15.out.2.lt; omega
      have hrb := rbuild_any (regs m'.r) AY (fun k => k ≠ b) (vals 8) (.slice (some ⟨gm, 8, none⟩) 8 8) wx b 0 0 HGT.out.2 (by have := HCO.out; omega) (by have := HCO.out; omega) (RShows.mono (fun k _ h => fun e => h.2 (by rw [k5', e])) _ _ hr8) (fun h => h rfl) ((regs_nums wx gm m' (FM15.out.2.fr ha.out.fr (fun h => h)) HRIN.out).mono (fun k _ hk => by omega)) (hm hn)
      have HK9 := hid (And.intro k5' (And.intro hn (And.intro h10 h12)))
      unfold pptr at e5
      clear hu hn k5 k8 hb hm hr8 k5' h10 h12 he hgb
      simp only [e5] at hK ⊢
      go_simp
      go_at_call 15
      refine hrb.mono ?_
      rintro er wa ⟨v', rfl, hv, fb, hmb⟩
      rw [HBV.out.1] at hv
      exact hK _ _ (fun _ h => by cases h) (LkA.toS (ha.out.build9 HK9.out.1 HK9.out.2.1 HK9.out.2.2.1 fb hv) HK9.out.2.2.2)
     ·have h12 := (hu 12 (by simp) (by kernel_rfl)).2
      have ha := hid (HSX.out.a h12)
      have k9 : st 9 = some (vals 9) := by first | exact he | exact he.1 | exact he.2.1 | exact he.2 | exact he.2.2.1 | exact he.2.2
      have hof := of_any BV _ (vals 9) wx (ha.out.t9 _ k9) (by have := HBV.out; omega)
      clear hu hn k9 he
      go_simp
      go_at_call 14
      refine hof.mono ?_
      rintro er wa ⟨v', rfl, hv, fa⟩
      exact hK _ _ (fun _ h => by cases h) (LkA.toS (ha.out.call10 fa hv) h12)
     ·have h12 := (hu 12 (by simp) (by kernel_rfl)).2
      have ha := hid (HSX.out.a h12)
      clear hu hn
      go_simp
      exact hK _ _ (fun _ h => by cases h) (LkA.toS ha.out.alloc11 h12)
     ·have ha := hid (HSX.out.a hn)
      have k10 : st 10 = some (vals 10) := by first | exact he | exact he.1 | exact he.2.1 | exact he.2 | exact he.2.2.1 | exact he.2.2
      have k11 : st 11 = some (vals 11) := by first | exact he | exact he.1 | exact he.2.1 | exact he.2 | exact he.2.2.1 | exact he.2.2
      obtain ⟨g, e11, hg, hc⟩ := ha.out.t11 _ k11
      obtain ⟨yn, yf, ys, ya, yc, yp, e10⟩ := (ha.out.t10 _ k10).lit
      have k11' : st 11 = some (pptr g) := by rw [k11, e11]
      have k10' : st 10 = some (.agg #[.int .i64 yn, .float .f64 yf, .string ys, .slice ya yc yp]) := by rw [k10, e10]
      clear hu hn he
      unfold pptr at e11
      simp only [e10, e11] at hK ⊢
      simp only [Region.wanted, if_true]
      refine wp_store_row 44 (.tmp 12) (.tmp 114) rfl g _ rfl rfl 44 lval0 hc (by rw [Try.sizeValue]; rfl) rfl (by simp [Value.oneCell']) ?_
      exact hK undef _ (fun _ h => by cases h) (ha.out.store12 k10' k11')
    case fin22 =>
    intro vals w16 hS hV
    have key : ∃ g, vals 11 = .pointer (some ⟨g, 0, none⟩) /\ LkIn w15 BV g w16 := by
     obtain ⟨g, e6, hin⟩ := hS
     exact ⟨g, by simpa [pptr, OpSort.isLink] using e6, hin⟩
    obtain ⟨gv, e6, hin⟩ := key
    obtain ⟨f16, hgv, x0', x1', x2', x3', qv, hvv⟩ := hin
    obtain ⟨yn, yf, ys, ya, yc, yp, e10⟩ := hvv.lit
    simp at e10
    obtain ⟨rfl, rfl, rfl, rfl⟩ := e10
    have F16 := hid (And.intro f16 (And.intro hgv (And.intro qv hvv)))
    clear hS hV f16 hgv qv hvv
    simp only [frOfU, fillU, zsl, Nat.reduceAdd, e6]
    clear e6
    have HW16 : Hid (w16.heap[gb]? = some (.cells #[.int .u8 r0, .int .i64 r1, .slice r2 r3 r4, .slice r5 r6 r7, .int .u8 s0, .int .i64 s1, .slice s2 s3 s4, .slice s5 s6 s7, .slice ua' lb.length uc'] 40 (0, 0)) /\ RMAt w16 gm m' /\ w16.heap[g9]? = some (.cells #[.int .i64 (m'.r 0), .int .i64 (m'.r 1), .int .i64 (m'.r 2), .int .i64 (m'.r 3), .int .i64 (m'.r 4), .int .i64 (m'.r 5), .int .i64 (m'.r 6), .int .i64 (m'.r 7)] 27 (0, 0)) /\ w16.heap[g9 + 1]? = some (.cells #[.int .i64 0, .int .i64 0, .int .i64 pn, .float .f64 pf, .string ps, .slice pa' pc' pp] 65 (0, 0))) := hid
     ⟨pbox_kept HQ15.out.1 F16.out.1 (fun h => h), FM15.out.2.fr F16.out.1 (fun h => h), pbox_kept F15.out.2.1 F16.out.1 (fun h => h), pbox_kept F15.out.2.2 F16.out.1 (fun h => h)⟩
    have HST : Hid (∀ wx, Fr (fun _ => False) w16 wx -> ∀ k, k < 8 -> wx.cell? ⟨g9, k, none⟩ = some (.int .i64 (m'.r k))) := hid (fun wx f k hk => by
     have qq := pbox_kept HW16.out.2.2.1 f (fun h => h)
     rw [cell_of_row wx g9 k _ _ _ qq]
     have : k = 0 \/ k = 1 \/ k = 2 \/ k = 3 \/ k = 4 \/ k = 5 \/ k = 6 \/ k = 7 := by omega
     rcases this with rfl | rfl | rfl | rfl | rfl | rfl | rfl | rfl <;> rfl)
    go_upto_region 23 with fail
    go_wp2_with fail
    go_loopg [13, 115] 8 (fun G u13 u115 wi => ∃ (i : Nat), i <= 8 /\ G = 8 - i /\ u115 = .int .i64 i /\ Hid (Fr (fun _ => False) w16 wi))
    case atStart => exact ⟨0, by omega, rfl, rfl, hid (Fr.refl _ _)⟩
    case round =>
     obtain ⟨i, hi, rfl, rfl, HI2⟩ := hrel
     by_cases hlt2 : i < 8
     ·have k0 := HST.out _ HI2.out i hlt2
      have k1 := (HW16.out.2.1.fr HI2.out (fun h => h)).cell i (by omega)
      have hlt2' : (i : Int) < 8 := by omega
      obtain ⟨y, hy⟩ : ∃ y, m'.r i = y := ⟨_, rfl⟩
      rw [hy] at k0 k1
      clear hy
      go_upto_region 26 with fail
      go_quiet (fail)
      go_wp2_with fail
      go_roundg (8 - (i + 1))
      case measure => omega
      case rel => exact ⟨i + 1, by omega, rfl, by go_num, hid (by exact HI2.out.drewN _)⟩
     ·have hge2 : ¬ (i : Int) < 8 := by omega
      obtain ⟨w17, rfl⟩ : ∃ w17 : World, w17 = wr := ⟨_, rfl⟩
      have qq := pbox_kept HW16.out.2.2.2 HI2.out (fun h => h)
      have o0 : w17.cell? ⟨g9 + 1, 0, none⟩ = some (.int .i64 0) := pcells_row qq 0 _ rfl
      have o1 : w17.cell? ⟨g9 + 1, 1, none⟩ = some (.int .i64 0) := pcells_row qq 1 _ rfl
      have o2 : w17.cell? ⟨g9 + 1, 2, none⟩ = some (.int .i64 pn) := pcells_row qq 2 _ rfl
      have o3 : w17.cell? ⟨g9 + 1, 3, none⟩ = some (.float .f64 pf) := pcells_row qq 3 _ rfl
      have o4 : w17.cell? ⟨g9 + 1, 4, none⟩ = some (.string ps) := pcells_row qq 4 _ rfl
      have o5 : w17.cell? ⟨g9 + 1, 5, none⟩ = some (.slice pa' pc' pp) := pcells_row qq 5 _ rfl
      have qq := pbox_kept F16.out.2.2.1 HI2.out (fun h => h)
      have y0 : w17.cell? ⟨gv, 0, none⟩ = some (.int .i64 yn) := pcells_row qq 0 _ rfl
      have y1 : w17.cell? ⟨gv, 1, none⟩ = some (.float .f64 yf) := pcells_row qq 1 _ rfl
      have y2 : w17.cell? ⟨gv, 2, none⟩ = some (.string ys) := pcells_row qq 2 _ rfl
      have y3 : w17.cell? ⟨gv, 3, none⟩ = some (.slice ya yc yp) := pcells_row qq 3 _ rfl
      have qq := pbox_kept HW16.out.1 HI2.out (fun h => h)
      have d4 : w17.cell? ⟨gb, 4, none⟩ = some (.int .u8 s0) := pcells_row qq 4 _ rfl
      have d5 : w17.cell? ⟨gb, 5, none⟩ = some (.int .i64 s1) := pcells_row qq 5 _ rfl
      have d6 : w17.cell? ⟨gb, 6, none⟩ = some (.slice s2 s3 s4) := pcells_row qq 6 _ rfl
      have d7 : w17.cell? ⟨gb, 7, none⟩ = some (.slice s5 s6 s7) := pcells_row qq 7 _ rfl
      clear qq
      have hv1 : VShows (fun _ => True) w17 BV (.agg #[.int .i64 pn, .float .f64 pf, .string ps, .slice pa' pc' pp]) := VShows.fr HI2.out fid2 _ _ (VShows.fr F16.out.1 fid2 _ _ HV15.out)
      have hv2 : VShows (fun _ => True) w17 BV (.agg #[.int .i64 yn, .float .f64 yf, .string ys, .slice ya yc yp]) := VShows.fr HI2.out fid2 _ _ F16.out.2.2.2
      have hsm := psame_any (fun _ => True) ⟨0, 0, BV⟩ ⟨0, 0, BV⟩ (.agg #[.int .i64 0, .int .i64 0, .int .i64 pn, .float .f64 pf, .string ps, .slice pa' pc' pp]) (.agg #[.int .i64 0, .int .i64 0, .int .i64 yn, .float .f64 yf, .string ys, .slice ya yc yp]) w17 ⟨_, _, _, _, rfl, hv1⟩ ⟨_, _, _, _, rfl, hv2⟩ (by have := HBV.out; show szV BV <= 100000; omega)
      rw [same_oc ⟨0, 0, BV⟩ hv1] at hsm
      have HV1 := hid hv1
      clear hv1 hv2
      go_wp2_with fail
      refine hsm.mono ?_
      rintro er w18 ⟨rfl, f18⟩
      have F18 : Hid (Fr (fun _ => False) w16 w18 /\ Fr (fun _ => False) w17 w18) := hid ⟨qfr0 HI2.out f18, f18⟩
      clear f18 hsm
      clear o0 o1 o2 o3 o4 o5 y0 y1 y2 y3 d4 d5 d6 d7
      have qq := pbox_kept HW16.out.2.2.2 F18.out.1 (fun h => h)
      have o0 : w18.cell? ⟨g9 + 1, 0, none⟩ = some (.int .i64 0) := pcells_row qq 0 _ rfl
      have o1 : w18.cell? ⟨g9 + 1, 1, none⟩ = some (.int .i64 0) := pcells_row qq 1 _ rfl
      have o2 : w18.cell? ⟨g9 + 1, 2, none⟩ = some (.int .i64 pn) := pcells_row qq 2 _ rfl
      have o3 : w18.cell? ⟨g9 + 1, 3, none⟩ = some (.float .f64 pf) := pcells_row qq 3 _ rfl
      have o4 : w18.cell? ⟨g9 + 1, 4, none⟩ = some (.string ps) := pcells_row qq 4 _ rfl
      have o5 : w18.cell? ⟨g9 + 1, 5, none⟩ = some (.slice pa' pc' pp) := pcells_row qq 5 _ rfl
      have qq := pbox_kept F16.out.2.2.1 F18.out.1 (fun h => h)
      have y0 : w18.cell? ⟨gv, 0, none⟩ = some (.int .i64 yn) := pcells_row qq 0 _ rfl
      have y1 : w18.cell? ⟨gv, 1, none⟩ = some (.float .f64 yf) := pcells_row qq 1 _ rfl
      have y2 : w18.cell? ⟨gv, 2, none⟩ = some (.string ys) := pcells_row qq 2 _ rfl
      have y3 : w18.cell? ⟨gv, 3, none⟩ = some (.slice ya yc yp) := pcells_row qq 3 _ rfl
      have qq := pbox_kept HW16.out.1 F18.out.1 (fun h => h)
      have d4 : w18.cell? ⟨gb, 4, none⟩ = some (.int .u8 s0) := pcells_row qq 4 _ rfl
      have d5 : w18.cell? ⟨gb, 5, none⟩ = some (.int .i64 s1) := pcells_row qq 5 _ rfl
      have d6 : w18.cell? ⟨gb, 6, none⟩ = some (.slice s2 s3 s4) := pcells_row qq 6 _ rfl
      have d7 : w18.cell? ⟨gb, 7, none⟩ = some (.slice s5 s6 s7) := pcells_row qq 7 _ rfl
      clear qq
      have hck := vcheck_any (fun _ => True) AY BV (.agg #[.int .u8 s0, .int .i64 s1, .slice s2 s3 s4, .slice s5 s6 s7]) (.agg #[.int .i64 pn, .float .f64 pf, .string ps, .slice pa' pc' pp]) w18
       (Shows.mono (fun _ _ _ => trivial) _ _ (Shows.fr (S := fun k => k = gm) (FM15.out.1.trans ((qfr0 F16.out.1 F18.out.1).mono (fun _ _ h => h.elim)) fid2) HLT7.out _ _ HS7.out.2.1)) (VShows.fr F18.out.2 fid2 _ _ HV1.out) (by have := HBV.out; omega)
      rw [show valE AY BV = 0 from by unfold valE; rw [HBV.out.2.1]; rfl] at hck
      go_wp2_with fail
      refine hck.mono ?_
      rintro er w19 ⟨rfl, f19⟩
      have F19 := hid f19
      clear f19 hck
      clear o0 o1 o2 o3 o4 o5 y0 y1 y2 y3 d4 d5 d6 d7
      go_wp2_with fail
      go_ret
      exact ⟨rfl, qfr0 FW15.out (qfr0 F16.out.1 (qfr0 F18.out.1 F19.out))⟩
   ·obtain ⟨rfl, rfl⟩ := Prod.mk.inj (HX2.out.symm.trans hp)
    rw [hme] at q2
    rw [hmq] at q3
    have HME := hid (And.intro hme hmq)
    have hne : ¬ (en : Int) = 0 := by omega
    have hne2 : ¬ en = 0 := by omega
    clear hp hme hmq h14
    dsimp only at F15 F14 HV15 ⊢
    go_upto_region 21 with fail
    have hnb : ((en : Int) != 0) = true := bne_iff_ne.2 hne
    rw [hnb]
    clear hnb
    clear q0 q1 q2 q3 hne hne2
    have heq : ∀ w, (Op.equalIn 10000 27 (.agg #[.int .i64 (x.st 0), .int .i64 (x.st 1), .int .i64 (x.st 2), .int .i64 (x.st 3), .int .i64 (x.st 4), .int .i64 (x.st 5), .int .i64 (x.st 6), .int .i64 (x.st 7)]) (.agg #[.int .i64 (x.st 0), .int .i64 (x.st 1), .int .i64 (x.st 2), .int .i64 (x.st 3), .int .i64 (x.st 4), .int .i64 (x.st 5), .int .i64 (x.st 6), .int .i64 (x.st 7)])).run Try.prog w = .ok true w := fun w => by
     have := equal_states 9998 x.st x.st w
     rw [(stEq_iff x.st x.st).2 (fun _ _ => rfl)] at this
     exact this
    have HEQ := hid heq
    clear heq
    refine wp_region_chain (by kernel_rfl) [some 87, some 88, some 89, some 90, some 91, some 92, some 93, some 94, some 95, some 96, some 97, some 98, some 99, some 100, some 101, some 102, some 103, some 2] rfl (by decide) (by intro d hd; simp at hd ⊢; omega)
     [15] (fun cvs wx => QF w15 cvs wx)
     [.free (.agg #[.int .i64 (x.st 0), .int .i64 (x.st 1), .int .i64 (x.st 2), .int .i64 (x.st 3), .int .i64 (x.st 4), .int .i64 (x.st 5), .int .i64 (x.st 6), .int .i64 (x.st 7)]), .free (.pointer (some ⟨n0, 7, none⟩)), .free (.agg #[.int .i64 (x.st 0), .int .i64 (x.st 1), .int .i64 (x.st 2), .int .i64 (x.st 3), .int .i64 (x.st 4), .int .i64 (x.st 5), .int .i64 (x.st 6), .int .i64 (x.st 7)]), .free (.bool true), .free (.bool true), .free (.agg #[.int .i64 en, .int .i64 nn, .int .i64 pn, .float .f64 pf, .string ps, .slice pa' pc' pp]), .free (.pointer (some ⟨gm, 0, none⟩)), .free (.pointer (some ⟨gm, 0, none⟩)), .free (.pointer (some ⟨gm, 18, none⟩)), .free (.int .i64 en), .free (.pointer (some ⟨gm, 0, none⟩)), .free (.pointer (some ⟨gm, 0, none⟩)), .free (.pointer (some ⟨gm, 19, none⟩)), .free (.int .i64 nn), .free (.agg #[.int .i64 en, .int .i64 nn, .int .i64 0, .float .f64 0, .string ⟨#[]⟩, .slice none 0 0]), .link (some (.bool true)), .free (.bool true), .free (.bool true)]
     (by kernel_rfl) (by kernel_rfl) ?h21 ?step21 ?fin21
    case h21 => exact (Fr.refl _ _).drew
    case step21 =>
     intro vals
     simp only [frOfU, fillU, zsl]
     repeat' (first | exact AllOps.nil | refine AllOps.cons ?_ ?_)
     all_goals
      intro cvs wx hS he hu hlim Kc hK
      simp only [Act.put, zsl, zgl] at hK
      simp only [zml, Region.binds, forall_const, vmode_gc, Bool.false_eq_true, false_imp_iff, zgl, OpSort.val, Option.some.injEq, forall_eq', reduceCtorEq, implies_true, true_and, and_true] at he
      have hfr : Fr (fun _ => False) w15 wx := hS
      have qq := pbox_kept HQ15.out.2 hfr (fun h => h)
      have c7 : wx.cell? ⟨n0, 7, none⟩ = some (.int .i64 (x.st 0)) := pcells_row qq 7 _ rfl
      have c8 : wx.cell? ⟨n0, 8, none⟩ = some (.int .i64 (x.st 1)) := pcells_row qq 8 _ rfl
      have c9 : wx.cell? ⟨n0, 9, none⟩ = some (.int .i64 (x.st 2)) := pcells_row qq 9 _ rfl
      have c10 : wx.cell? ⟨n0, 10, none⟩ = some (.int .i64 (x.st 3)) := pcells_row qq 10 _ rfl
      have c11 : wx.cell? ⟨n0, 11, none⟩ = some (.int .i64 (x.st 4)) := pcells_row qq 11 _ rfl
      have c12 : wx.cell? ⟨n0, 12, none⟩ = some (.int .i64 (x.st 5)) := pcells_row qq 12 _ rfl
      have c13 : wx.cell? ⟨n0, 13, none⟩ = some (.int .i64 (x.st 6)) := pcells_row qq 13 _ rfl
      have c14 : wx.cell? ⟨n0, 14, none⟩ = some (.int .i64 (x.st 7)) := pcells_row qq 14 _ rfl
      have qq := pbox_kept F15.out.2.1 hfr (fun h => h)
      have k0 : wx.cell? ⟨g9, 0, none⟩ = some (.int .i64 (x.st 0)) := pcells_row qq 0 _ rfl
      have k1 : wx.cell? ⟨g9, 1, none⟩ = some (.int .i64 (x.st 1)) := pcells_row qq 1 _ rfl
      have k2 : wx.cell? ⟨g9, 2, none⟩ = some (.int .i64 (x.st 2)) := pcells_row qq 2 _ rfl
      have k3 : wx.cell? ⟨g9, 3, none⟩ = some (.int .i64 (x.st 3)) := pcells_row qq 3 _ rfl
      have k4 : wx.cell? ⟨g9, 4, none⟩ = some (.int .i64 (x.st 4)) := pcells_row qq 4 _ rfl
      have k5 : wx.cell? ⟨g9, 5, none⟩ = some (.int .i64 (x.st 5)) := pcells_row qq 5 _ rfl
      have k6 : wx.cell? ⟨g9, 6, none⟩ = some (.int .i64 (x.st 6)) := pcells_row qq 6 _ rfl
      have k7 : wx.cell? ⟨g9, 7, none⟩ = some (.int .i64 (x.st 7)) := pcells_row qq 7 _ rfl
      have qq := pbox_kept F15.out.2.2 hfr (fun h => h)
      have o0 : wx.cell? ⟨g9 + 1, 0, none⟩ = some (.int .i64 en) := pcells_row qq 0 _ rfl
      have o1 : wx.cell? ⟨g9 + 1, 1, none⟩ = some (.int .i64 nn) := pcells_row qq 1 _ rfl
      have o2 : wx.cell? ⟨g9 + 1, 2, none⟩ = some (.int .i64 pn) := pcells_row qq 2 _ rfl
      have o3 : wx.cell? ⟨g9 + 1, 3, none⟩ = some (.float .f64 pf) := pcells_row qq 3 _ rfl
      have o4 : wx.cell? ⟨g9 + 1, 4, none⟩ = some (.string ps) := pcells_row qq 4 _ rfl
      have o5 : wx.cell? ⟨g9 + 1, 5, none⟩ = some (.slice pa' pc' pp) := pcells_row qq 5 _ rfl
      have q2 : wx.cell? ⟨gm, 18, none⟩ = some (.int .i64 en) := by rw [(FM15.out.2.fr hfr (fun h => h)).rest.2.2.1, HME.out.1]
      have q3 : wx.cell? ⟨gm, 19, none⟩ = some (.int .i64 nn) := by rw [(FM15.out.2.fr hfr (fun h => h)).rest.2.2.2, HME.out.2]
      have heq := HEQ.out
      clear qq
      have HSX := hid hS
      clear hS
     all_goals first | (clear hlim hu; (try simp only [he] at hK ⊢); go_simp; exact hK) | skip
     ·obtain rfl := hlim (0 : Nat) rfl
      have H1 := hid hfr
      clear hlim hu HSX hfr
      clear c7 c8 c9 c10 c11 c12 c13 c14 k0 k1 k2 k3 k4 k5 k6 k7 o0 o1 o2 o3 o4 o5 q2 q3 heq
      simp only [he] at hK ⊢
      go_simp
      go_at_call 13
      have hsv : VShows (fun _ => True) wx zeroV (.agg #[.int .i64 pn, .float .f64 pf, .string ps, .slice pa' pc' pp]) := VShows.fr H1.out fid2 _ _ HV15.out
      refine (psame_any (fun _ => True) ⟨en, nn, zeroV⟩ ⟨en, nn, zeroV⟩ _ _ wx ⟨_, _, _, _, rfl, hsv⟩ ⟨_, _, _, _, rfl, zeroV_shows _ _⟩ (by simp [zeroV, szV])).mono ?_
      rintro e1 wa ⟨rfl, fa⟩
      rw [same_oc ⟨en, nn, zeroV⟩ hsv]
      exact hK _ _ (fun _ h => by cases h; rfl) (qfr0 H1.out fa)
    case fin21 =>
    intro vals w16 hS hV
    have v0 := hV 0 _ (by decide) rfl
    have v1 := hV 1 _ (by decide) rfl
    have v2 := hV 2 _ (by decide) rfl
    have v3 := hV 3 _ (by decide) rfl
    have v4 := hV 4 _ (by decide) rfl
    have v5 := hV 5 _ (by decide) rfl
    have v6 := hV 6 _ (by decide) rfl
    have v7 := hV 7 _ (by decide) rfl
    have v8 := hV 8 _ (by decide) rfl
    have v9 := hV 9 _ (by decide) rfl
    have v10 := hV 10 _ (by decide) rfl
    have v11 := hV 11 _ (by decide) rfl
    have v12 := hV 12 _ (by decide) rfl
    have v13 := hV 13 _ (by decide) rfl
    have v14 := hV 14 _ (by decide) rfl
    have v15 := hV 15 _ (by decide) rfl
    have v16 := hV 16 _ (by decide) rfl
    have v17 := hV 17 _ (by decide) rfl
    clear hV
    simp only [frOfU, fillU, zsl]
    simp only [Nat.reduceAdd, v0, v1, v2, v3, v4, v5, v6, v7, v8, v9, v10, v11, v12, v13, v14, v15, v16, v17]
    clear v0 v1 v2 v3 v4 v5 v6 v7 v8 v9 v10 v11 v12 v13 v14 v15 v16 v17
    have F16 := hid (show Fr (fun _ => False) w15 w16 from hS)
    clear hS
    go_wp2_with fail
    go_ret
    exact ⟨rfl, qfr0 FW15.out F16.out⟩
end
section
set_option maxRecDepth 100000 in
theorem plays_off (x : S11) (a0 a1 a2 b0 b1 b2 pv av : Value) (w : World) (hx : S11Shows w x a0 a1 a2 b0 b1 b2 pv av) (hli : lightS x = false) :
  Calls Try.prog 3 #[.agg (s11C x.st a0 a1 a2 b0 b1 b2 pv av)] w fun e w' => e = .returned (.bool true) /\ Fr (fun _ => False) w w' := by
 have HLI := hid hli
 have HX := hid hx
 clear hli hx
 simp only [s11C]
 go_enter Try.func3, Try.ntmps3
 go_wp2_with fail
 refine (pawake_any _).mono ?_
 rintro e w1 ⟨rfl, f1⟩
 have F1 : Hid (Fr (fun _ => False) w w1 /\ w1.heap[w.heap.size]? = some (.cells (s11C x.st a0 a1 a2 b0 b1 b2 pv av) 30 (0, 0))) := hid ⟨((Fr.refl (fun _ => False) _).alloc _).trans f1 fid2, pbox_kept (heap_alloc_new w _) f1 (fun h => h)⟩
 generalize hn : w.heap.size = n0 at *
 clear f1 hn
 have qq := F1.out.2
 have c0 : w1.cell? ⟨n0, 0, none⟩ = some a0 := pcells_row qq 0 _ rfl
 have c1 : w1.cell? ⟨n0, 1, none⟩ = some a1 := pcells_row qq 1 _ rfl
 have c2 : w1.cell? ⟨n0, 2, none⟩ = some a2 := pcells_row qq 2 _ rfl
 have c3 : w1.cell? ⟨n0, 3, none⟩ = some b0 := pcells_row qq 3 _ rfl
 have c4 : w1.cell? ⟨n0, 4, none⟩ = some b1 := pcells_row qq 4 _ rfl
 have c5 : w1.cell? ⟨n0, 5, none⟩ = some b2 := pcells_row qq 5 _ rfl
 have c6 : w1.cell? ⟨n0, 6, none⟩ = some pv := pcells_row qq 6 _ rfl
 have c7 : w1.cell? ⟨n0, 7, none⟩ = some (.int .i64 (x.st 0)) := pcells_row qq 7 _ rfl
 have c8 : w1.cell? ⟨n0, 8, none⟩ = some (.int .i64 (x.st 1)) := pcells_row qq 8 _ rfl
 have c9 : w1.cell? ⟨n0, 9, none⟩ = some (.int .i64 (x.st 2)) := pcells_row qq 9 _ rfl
 have c10 : w1.cell? ⟨n0, 10, none⟩ = some (.int .i64 (x.st 3)) := pcells_row qq 10 _ rfl
 have c11 : w1.cell? ⟨n0, 11, none⟩ = some (.int .i64 (x.st 4)) := pcells_row qq 11 _ rfl
 have c12 : w1.cell? ⟨n0, 12, none⟩ = some (.int .i64 (x.st 5)) := pcells_row qq 12 _ rfl
 have c13 : w1.cell? ⟨n0, 13, none⟩ = some (.int .i64 (x.st 6)) := pcells_row qq 13 _ rfl
 have c14 : w1.cell? ⟨n0, 14, none⟩ = some (.int .i64 (x.st 7)) := pcells_row qq 14 _ rfl
 have c15 : w1.cell? ⟨n0, 15, none⟩ = some av := pcells_row qq 15 _ rfl
 clear qq
 go_wp2_with fail
 refine (slight_any x a0 a1 a2 b0 b1 b2 pv av w1 (HX.out.fr F1.out.1)).mono ?_
 rintro e w2 ⟨rfl, f2⟩
 rw [HLI.out]
 go_wp2_with fail
 go_ret
 exact ⟨rfl, F1.out.1.trans f2 fid2⟩

theorem plays_all {W : World} (x : S11) (vx : Value) (hx : S11V W x vx) :
  Calls Try.prog 3 #[vx] W fun e w' => e = .returned (.bool true) /\ Fr (fun _ => False) W w' := by
 obtain ⟨a0, a1, a2, b0, b1, b2, pv, av, rfl, hs⟩ := hx
 cases h : lightS x
 ·exact plays_off x a0 a1 a2 b0 b1 b2 pv av W hs h
 ·exact plays_walk x a0 a1 a2 b0 b1 b2 pv av W hs h
end
end Go.Proofs.Ytohfejpjjjaejaa
