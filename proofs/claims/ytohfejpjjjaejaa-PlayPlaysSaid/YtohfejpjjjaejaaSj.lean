/-
  PlayPlays, part 10 of what it rests on: PlayBody, PlayLight, ValAwake, ValRef.
-/
import Derived.Test.YtohfejpjjjaejaaSi
set_option linter.unusedVariables false
set_option linter.unusedSimpArgs false
set_option maxHeartbeats 32000000
namespace Go.Proofs.Ytohfejpjjjaejaa
open Go.RowKit
open Go.Lib (hid)
section
def BRet (w w' : World) (x : S11) (e : Ending) : Prop :=
 ∃ x0 x1 x2 x3 y0 y1 y2 y3 p l v0 v1 v2 v3, e = .returned (.tuple #[.agg #[x0, x1, x2, x3, y0, y1, y2, y3, p], .agg #[v0, v1, v2, v3]]) /\
  Shows (fun k => w.heap.size <= k) w' (typeE [] x.takes 4) (.agg #[x0, x1, x2, x3]) /\ Shows (fun k => w.heap.size <= k) w' (typeE [] x.answers 4) (.agg #[y0, y1, y2, y3]) /\ PG l /\ PSees w' p l /\
  (∀ k, p.ownBlock = some k -> w.heap.size <= k) /\ VShows (fun k => w.heap.size <= k) w' (BuildE x.args (typeE [] x.takes 4)) (.agg #[v0, v1, v2, v3])

theorem Try.sizeBody : (Try.prog.info? 40).map (·.size) = some 9 := by kernel_rfl
theorem Try.sizeValue : (Try.prog.info? 44).map (·.size) = some 4 := by kernel_rfl

def ReS (w0 : World) (ob vb : Nat) (cs : Array Value) (BV : VT) : List Value -> World -> Prop
 | [], wx => Fr (fun _ => False) w0 wx
 | [v'], wx => Fr (fun _ => False) w0 wx /\ VShows (fun k => w0.heap.size <= k) wx BV v'
 | [v', _], wx => Fr (fun k => k = ob) w0 wx /\ wx.heap[ob]? = some (.cells cs 40 (0, 0)) /\ VShows (fun k => w0.heap.size <= k) wx BV v'
 | _, wx => Fr (fun k => k = ob \/ k = vb) w0 wx /\ wx.heap[ob]? = some (.cells cs 40 (0, 0)) /\ ∃ z0 z1 z2 z3, wx.heap[vb]? = some (.cells #[z0, z1, z2, z3] 44 (0, 0)) /\ VShows (fun k => w0.heap.size <= k) wx BV (.agg #[z0, z1, z2, z3])

theorem ReS.fr {w0 : World} {ob vb : Nat} {cs : Array Value} {BV : VT} {l : List Value} {wx : World} (h : ReS w0 ob vb cs BV l wx) : Fr (fun k => k = ob \/ k = vb) w0 wx := by
 match l, h with
 | [], h => exact h.mono (fun _ _ h => h.elim)
 | [_], h => exact h.1.mono (fun _ _ h => h.elim)
 | [_, _], h => exact h.1.mono (fun _ _ h => .inl h)
 | _ :: _ :: _ :: _, h => exact h.1

def val0 : Array Value := #[.int .i64 0, .float .f64 0, .string ⟨#[]⟩, .slice none 0 0]

theorem type_cost (t : KN) : costE (typeE [] t 4) <= 100000 := by have := cost_typeE [] t 4; omega

attribute [local go_sem] run_store_float

set_option maxRecDepth 100000 in
theorem body_make (x : S11) (a0 a1 a2 b0 b1 b2 pv av : Value) (w : World) (h : S11Shows w x a0 a1 a2 b0 b1 b2 pv av) (hl : x.args.length <= 40) :
  Calls Try.prog 6 #[.agg (s11C x.st a0 a1 a2 b0 b1 b2 pv av)] w fun e w' => BRet w w' x e /\ Fr (fun _ => False) w w' := by
 obtain ⟨w1, hw1⟩ : ∃ w1, w1 = ((w.alloc (.cells (s11C x.st a0 a1 a2 b0 b1 b2 pv av) 30)).alloc (.cells body0 40)).alloc (.cells val0 44) := ⟨_, rfl⟩
 have F1 : Hid (Fr (fun _ => False) w w1 /\ w1.heap[w.heap.size]? = some (.cells (s11C x.st a0 a1 a2 b0 b1 b2 pv av) 30 (0, 0)) /\ w1.heap[w.heap.size + 1]? = some (.cells body0 40 (0, 0)) /\ w1.heap[w.heap.size + 1 + 1]? = some (.cells val0 44 (0, 0))) := hid (by
  have f : ∀ (w : World) (o : Obj), Fr (fun _ => False) w (w.alloc o) := fun w o => (Fr.refl _ _).alloc _
  rw [hw1]
  exact ⟨((f _ _).alloc _).alloc _, pbox_kept (pbox_kept (heap_alloc_new _ _) (f _ _) (fun h => h)) (f _ _) (fun h => h), pbox_kept (new_two _ _ _) (f _ _) (fun h => h), new_three _ _ _ _⟩)
 have HSZ : Hid (w1.heap.size = w.heap.size + 1 + 1 + 1) := hid (by rw [hw1]; simp)
 have HS := hid h
 have HL := hid hl
 clear h hl
 simp only [s11C, body0, val0] at hw1
 simp only [s11C]
 go_enter Try.func6, Try.ntmps6
 go_wp2_with fail
 rw [<- hw1]
 clear hw1
 generalize hn : w.heap.size = n0 at *
 have N0 := hid hn
 clear hn
 refine wp_region_links (by kernel_rfl) [some 5, some 6, some 7, some 8, some 9, some 10, some 11, some 12, some 13, some 14, some 4, none] rfl (by decide) (by intro d hd; simp at hd ⊢; omega)
  (fun st wx => BdS w1 (typeE [] x.takes 4) (typeE [] x.answers 4) st wx)
  [.free (.pointer (some ⟨n0, 0, none⟩)), .free (.agg #[a0, a1, a2]), .link none, .free (.pointer (some ⟨n0, 3, none⟩)), .free (.agg #[b0, b1, b2]), .link none, .free (.pointer (some ⟨n0, 6, none⟩)), .free pv, .link none, .link none, .link none, .link none]
  (by kernel_rfl) ?h0 ?step ?fin
 case h0 => exact BdA.toS ⟨(Fr.refl _ _).drew, fun v h => (by cases h), fun v h => (by cases h), fun v h => (by cases h), fun v h => (by cases h), fun v h => (by cases h)⟩ rfl
 case step =>
  intro vals
  simp only [frOfU, fillU, zsl]
  repeat' (first | exact AllOps.nil | refine AllOps.cons ?_ ?_)
  all_goals
   intro st wx hS he hu hn K hK
   simp only [Act.put, zsl, zgl] at hK
   simp only [zml, Region.binds, forall_const, vmode_gc, Bool.false_eq_true, false_imp_iff, zgl, OpSort.val, OpSort.isLink, Option.some.injEq, forall_eq', reduceCtorEq, implies_true, true_and, and_true] at he
   have qb := pbox_kept F1.out.2.1 hS.fr (fun h => h)
   have c0 := pcells_row qb 0 _ rfl
   have c1 := pcells_row qb 1 _ rfl
   have c2 := pcells_row qb 2 _ rfl
   have c3 := pcells_row qb 3 _ rfl
   have c4 := pcells_row qb 4 _ rfl
   have c5 := pcells_row qb 5 _ rfl
   have c6 := pcells_row qb 6 _ rfl
   clear qb
   have HSX := hid hS
   clear hS
  all_goals first | (clear hu hn; (try simp only [he] at hK ⊢); go_simp; exact hK) | skip
  ·have h9 := (hu 9 (by simp) (by kernel_rfl)).2
   have h11 := (hu 11 (by simp) (by kernel_rfl)).2
   have ha := hid (HSX.out.a h11)
   clear hu hn
   simp only [he] at hK ⊢
   go_simp
   go_at_call 18
   refine (vtype_any x.takes _ wx (NShows.fr (F1.out.1.trans ha.out.fr fid2) _ _ HS.out.t)).mono ?_
   rintro q1 wa ⟨v', rfl, hs, fa⟩
   exact hK _ _ (fun _ h => by cases h) (BdA.toS (ha.out.call2 fa h9 hs) h11)
  ·have h9 := (hu 9 (by simp) (by kernel_rfl)).2
   have h11 := (hu 11 (by simp) (by kernel_rfl)).2
   have ha := hid (HSX.out.a h11)
   have he1 := he.1
   clear hu hn he
   simp only [he1] at hK ⊢
   go_simp
   go_at_call 18
   refine (vtype_any x.answers _ wx (NShows.fr (F1.out.1.trans ha.out.fr fid2) _ _ HS.out.a)).mono ?_
   rintro q1 wa ⟨v', rfl, hs, fa⟩
   exact hK _ _ (fun _ h => by cases h) (BdA.toS (ha.out.call5 fa h9 hs) h11)
  ·have h9 := (hu 9 (by simp) (by kernel_rfl)).2
   have h11 := (hu 11 (by simp) (by kernel_rfl)).2
   have ha := hid (HSX.out.a h11)
   have he1 := he.1
   clear hu hn he
   simp only [he1] at hK ⊢
   go_simp
   go_at_call 19
   refine (program_any x.prog _ wx (HS.out.p.fr0 (F1.out.1.trans ha.out.fr fid2))).mono ?_
   rintro q1 wa ⟨v', l, rfl, ht, hl16, _, hfi, hck⟩
   exact hK _ _ (fun _ h => by cases h) (BdA.toS (ha.out.call8 h9 ⟨hl16, hfi, hck⟩ ht) h11)
  ·have h11 := (hu 11 (by simp) (by kernel_rfl)).2
   have ha := hid (HSX.out.a h11)
   obtain ⟨k2, k5, k8⟩ := he
   obtain ⟨r0, r1, r2, r3, r4, r5, r6, r7, e2⟩ := (ha.out.t2 _ k2).four
   obtain ⟨s0, s1, s2, s3, s4, s5, s6, s7, e5⟩ := (ha.out.t5 _ k5).four
   obtain ⟨l, hl, hp, hk⟩ := ha.out.t8 _ k8
   obtain ⟨ua, uc, e8, _⟩ := hp.shape
   rw [e2] at k2
   rw [e5] at k5
   rw [e8] at k8
   have KK := hid (And.intro k2 (And.intro k5 (And.intro k8 h11)))
   clear hu hn k2 k5 k8 h11 hp hk hl
   simp only [e2, e5, e8] at hK ⊢
   go_simp
   exact hK _ _ (fun _ h => by cases h) (BdA.toS (ha.out.build9 KK.out.1 KK.out.2.1 KK.out.2.2.1) KK.out.2.2.2)
  ·have h11 := (hu 11 (by simp) (by kernel_rfl)).2
   have ha := hid (HSX.out.a h11)
   clear hu hn
   go_simp
   exact hK _ _ (fun _ h => by cases h) (BdA.toS ha.out.alloc10 h11)
  ·have ha := hid (HSX.out.a hn)
   obtain ⟨k10, k9, -⟩ := he
   obtain ⟨x0, x1, x2, x3, y0, y1, y2, y3, p, k2, k5, k8, e9⟩ := ha.out.t9 _ k9
   obtain ⟨g, e10, hg, hc⟩ := ha.out.t10 _ k10
   obtain ⟨l, hl, hp, hk⟩ := ha.out.t8 _ k8
   obtain ⟨ua, uc, e8, _⟩ := hp.shape
   obtain ⟨r0, r1, r2, r3, r4, r5, r6, r7, e2⟩ := (ha.out.t2 _ k2).four
   obtain ⟨s0, s1, s2, s3, s4, s5, s6, s7, e5⟩ := (ha.out.t5 _ k5).four
   simp at e2 e5
   obtain ⟨rfl, rfl, rfl, rfl⟩ := e2
   obtain ⟨rfl, rfl, rfl, rfl⟩ := e5
   subst e8
   have k10' : st 10 = some (pptr g) := by rw [k10, e10]
   clear hu hn hl hp hk
   unfold pptr at e10
   simp only [e9, e10] at hK ⊢
   simp only [Region.wanted, if_true]
   refine wp_store_row 40 (.tmp 4) (.tmp 14) rfl g _ rfl rfl 40 body0 hc (by rw [Try.sizeBody]; rfl) rfl (by simp [Value.oneCell']) ?_
   exact hK undef _ (fun _ h => by cases h) (ha.out.store11 k2 k5 k8 k10')
 case fin =>
  intro vals w2 hS hV
  have key : ∃ g, vals 10 = .pointer (some ⟨g, 0, none⟩) /\ BdIn w1 (typeE [] x.takes 4) (typeE [] x.answers 4) g w2 := by
   obtain ⟨g, e6, hin⟩ := hS
   exact ⟨g, by simpa [pptr, OpSort.isLink] using e6, hin⟩
  obtain ⟨g, e6, hin⟩ := key
  obtain ⟨f2, hg, x0, x1, x2, x3, y0, y1, y2, y3, p, l, qg, hT, hA, hl, hp, hk⟩ := hin
  obtain ⟨ua, uc, e8, _⟩ := hp.shape
  obtain ⟨r0, r1, r2, r3, r4, r5, r6, r7, e2⟩ := hT.four
  obtain ⟨s0, s1, s2, s3, s4, s5, s6, s7, e5⟩ := hA.four
  simp at e2 e5
  obtain ⟨rfl, rfl, rfl, rfl⟩ := e2
  obtain ⟨rfl, rfl, rfl, rfl⟩ := e5
  subst e8
  have H2 := hid (And.intro f2 (And.intro hg (And.intro qg (And.intro hT (And.intro hA (And.intro hl (And.intro hp hk)))))))
  clear hS hV f2 hg qg hT hA hl hp hk
  simp only [frOfU, fillU, zsl, e6]
  clear e6
  have f02 := F1.out.1.trans H2.out.1 fid2
  have F02 := hid f02
  have HB := hid (fun wx (fx : Fr (fun _ => False) w2 wx) => Build_any (fun _ => True) x.args (typeE [] x.takes 4) _ av wx (Shows.fr fx fid2 _ _ (Shows.mono (fun _ _ _ => trivial) _ _ H2.out.2.2.2.1)) ((HS.out.v.fr (f02.trans fx fid2)).nums (by have := HL.out; omega)) (type_cost x.takes))
  have hz : n0 + 1 + 1 < w2.heap.size /\ w2.heap.size ≥ w1.heap.size := by have := HSZ.out; have := H2.out.1.size; omega
  have HZ := hid hz
  have hgz : n0 + 1 + 1 < g := by have := HSZ.out; have := H2.out.2.1; omega
  have HGZ := hid hgz
  generalize hBV : BuildE x.args (typeE [] x.takes 4) = BV at *
  have HBV := hid hBV
  clear f02 hz hBV hgz
  go_wp2_with fail
  refine wp_region_chain (by kernel_rfl) [some 15, some 16, some 17, some 18, some 19, some 20, none, none] rfl (by decide) (by intro d hd; simp at hd ⊢; omega)
   [5, 6, 7] (ReS w2 (n0 + 1) (n0 + 1 + 1) #[.int .u8 r0, .int .i64 r1, .slice r2 r3 r4, .slice r5 r6 r7, .int .u8 s0, .int .i64 s1, .slice s2 s3 s4, .slice s5 s6 s7, .slice ua l.length uc] BV)
   [.free (.agg #[.int .u8 r0, .int .i64 r1, .slice r2 r3 r4, .slice r5 r6 r7, .int .u8 s0, .int .i64 s1, .slice s2 s3 s4, .slice s5 s6 s7, .slice ua l.length uc]), .free (.pointer (some ⟨g, 0, none⟩)), .free (.agg #[.int .u8 r0, .int .i64 r1, .slice r2 r3 r4, .slice r5 r6 r7]), .free (.pointer (some ⟨n0, 15, none⟩)), .free av, .link none, .link none, .link none]
   (by kernel_rfl) (by kernel_rfl) ?h0 ?step ?fin
  case h0 => exact (Fr.refl _ _).drew
  case step =>
   intro vals2
   simp only [frOfU, fillU, zsl]
   repeat' (first | exact AllOps.nil | refine AllOps.cons ?_ ?_)
   all_goals
    intro cvs wx hS he hu hlim K hK
    clear hu
    simp only [Act.put, zsl, zgl] at hK
    simp only [zml, Region.binds, forall_const, vmode_gc, Bool.false_eq_true, false_imp_iff, zgl, OpSort.val, Option.some.injEq, forall_eq', reduceCtorEq, implies_true, true_and, and_true] at he
    have qg := pbox_kept H2.out.2.2.1 hS.fr (fun h => by have := HGZ.out; omega)
    have d0 := pcells_row qg 0 _ rfl
    have d1 := pcells_row qg 1 _ rfl
    have d2 := pcells_row qg 2 _ rfl
    have d3 := pcells_row qg 3 _ rfl
    have d4 := pcells_row qg 4 _ rfl
    have d5 := pcells_row qg 5 _ rfl
    have d6 := pcells_row qg 6 _ rfl
    have d7 := pcells_row qg 7 _ rfl
    have d8 := pcells_row qg 8 _ rfl
    have qs := pcells_row (pbox_kept (pbox_kept F1.out.2.1 H2.out.1 (fun h => h)) hS.fr (fun h => by omega)) 15 _ rfl
    clear qg
    have HSX := hid hS
    clear hS
   all_goals first | (clear hlim; (try simp only [he] at hK ⊢); go_simp; exact hK) | skip
   ·obtain rfl := hlim (0 : Nat) rfl
    have h1 : Fr (fun _ => False) w2 wx := HSX.out
    have H1 := hid h1
    clear h1 hlim HSX
    simp only [he] at hK ⊢
    go_simp
    go_at_call 20
    refine (HB.out wx H1.out).mono ?_
    rintro q1 wa ⟨v', rfl, hv, fa⟩
    exact hK _ _ (fun _ h => by cases h) ⟨H1.out.trans fa fid2, VShows.mono (fun k _ hk => Nat.le_trans H1.out.size hk) _ _ hv⟩
   ·obtain rfl := hlim (1 : Nat) rfl
    have h1 : Fr (fun _ => False) w2 wx /\ VShows (fun k => w2.heap.size <= k) wx BV (vals2 5) := HSX.out
    have qo : wx.heap[n0 + 1]? = some (.cells body0 40 (0, 0)) := pbox_kept (pbox_kept F1.out.2.2.1 H2.out.1 (fun h => h)) h1.1 (fun h => h)
    clear hlim HSX d0 d1 d2 d3 d4 d5 d6 d7 d8 qs
    simp only [he] at hK ⊢
    simp only [Region.wanted, if_true]
    refine wp_store_row 40 (.tmp 2) (.tmp 15) rfl (n0 + 1) _ rfl rfl 40 body0 qo (by rw [Try.sizeBody]; rfl) rfl (by simp [Value.oneCell']) ?_
    have fs : Fr (fun k => k = n0 + 1) wx (wx.setRow (n0 + 1) #[.int .u8 r0, .int .i64 r1, .slice r2 r3 r4, .slice r5 r6 r7, .int .u8 s0, .int .i64 s1, .slice s2 s3 s4, .slice s5 s6 s7, .slice ua l.length uc]) := Fr.setRow (S := fun k => k = n0 + 1) (Fr.refl _ _) (fun _ => rfl) _
    exact hK undef _ (fun _ h => by cases h) ⟨(h1.1.mono (fun _ _ h => h.elim)).trans fs fid2, setRow_heap _ _ _ _ _ _ qo, VShows.fr fs (fun k hk h => by have := HZ.out; omega) _ _ h1.2⟩
   ·obtain rfl := hlim (2 : Nat) rfl
    have h1 : Fr (fun k => k = n0 + 1) w2 wx /\ wx.heap[n0 + 1]? = some (.cells #[.int .u8 r0, .int .i64 r1, .slice r2 r3 r4, .slice r5 r6 r7, .int .u8 s0, .int .i64 s1, .slice s2 s3 s4, .slice s5 s6 s7, .slice ua l.length uc] 40 (0, 0)) /\ VShows (fun k => w2.heap.size <= k) wx BV (vals2 5) := HSX.out
    obtain ⟨hf1, ho1, hv1⟩ := h1
    obtain ⟨zn, zf, zs, za, zc, zcap, e4⟩ := hv1.lit
    rw [e4] at hv1
    have qv : wx.heap[n0 + 1 + 1]? = some (.cells val0 44 (0, 0)) := pbox_kept (pbox_kept F1.out.2.2.2 H2.out.1 (fun h => h)) hf1 (fun h => by omega)
    clear hlim HSX d0 d1 d2 d3 d4 d5 d6 d7 d8 qs
    simp only [he, e4] at hK ⊢
    simp only [Region.wanted, if_true]
    refine wp_store_row 44 (.tmp 3) (.tmp 20) rfl (n0 + 1 + 1) #[.int .i64 zn, .float .f64 zf, .string zs, .slice za zc zcap] rfl rfl 44 val0 qv (by rw [Try.sizeValue]; rfl) rfl (by simp [Value.oneCell']) ?_
    have fs : Fr (fun k => k = n0 + 1 + 1) wx (wx.setRow (n0 + 1 + 1) #[.int .i64 zn, .float .f64 zf, .string zs, .slice za zc zcap]) := Fr.setRow (S := fun k => k = n0 + 1 + 1) (Fr.refl _ _) (fun _ => rfl) _
    exact hK undef _ (fun _ h => by cases h) ⟨(hf1.mono (fun _ _ h => .inl h)).trans fs (fun _ _ h => .inr h), (setRow_other _ _ _ _ (by omega)).trans ho1, _, _, _, _, setRow_heap _ _ _ _ _ _ qv, VShows.fr fs (fun k hk h => by have := HZ.out; omega) _ _ hv1⟩
  case fin =>
   intro vals2 w3 hS hV
   clear hV
   simp only [List.map_cons, List.map_nil] at hS
   obtain ⟨f3, q3, z0, z1, z2, z3, v3, hv3⟩ := hS
   have H3 := hid (And.intro f3 (And.intro q3 (And.intro v3 hv3)))
   clear f3 q3 v3 hv3
   simp only [frOfU, fillU, zsl]
   go_wp2_with fail
   have hz := HZ.out
   have hsz := HSZ.out
   have hn0 := N0.out
   refine bodyPost_ret (results_two_rows (P := Try.prog) Try.results6 _ w3 (n0 + 1) (n0 + 1 + 1) _ _ _ _ _ _ rfl H3.out.2.1 Try.underlying40 rfl (by rw [Try.sizeBody]; rfl) rfl H3.out.2.2.1 Try.underlying44 rfl (by rw [Try.sizeValue]; rfl)) rfl ?_
   have fr23 : Fr (fun k => k = n0 + 1 \/ k = n0 + 1 + 1) w2 w3 := H3.out.1
   refine ⟨⟨_, _, _, _, _, _, _, _, _, l, _, _, _, _, rfl, ?_, ?_, H2.out.2.2.2.2.2.1, H2.out.2.2.2.2.2.2.1.fr fr23 (fun k hk h => by have := (H2.out.2.2.2.2.2.2.2 k hk).2; omega), fun k hk => by have := (H2.out.2.2.2.2.2.2.2 k hk).2; omega, ?_⟩, ?_⟩
   ·exact Shows.mono (fun k _ hk => by have := hk.2; omega) _ _ (Shows.fr fr23 (fun k hk h => by have := hk.2; omega) _ _ H2.out.2.2.2.1)
   ·exact Shows.mono (fun k _ hk => by have := hk.2; omega) _ _ (Shows.fr fr23 (fun k hk h => by have := hk.2; omega) _ _ H2.out.2.2.2.2.1)
   ·rw [HBV.out]
    exact VShows.mono (fun k _ hk => by have := hk; omega) _ _ H3.out.2.2.2
   ·exact Fr.new F02.out (fun k hk => by omega) fr23
end
section
def lightS (x : S11) : Bool := lightE x.takes 4 && (lightE x.answers 4 && (decide (x.prog.length <= 30) && decide (x.args.length <= 40)))

set_option maxRecDepth 100000 in
theorem slight_any (x : S11) (a0 a1 a2 b0 b1 b2 pv av : Value) (w : World) (h : S11Shows w x a0 a1 a2 b0 b1 b2 pv av) :
  Calls Try.prog 5 #[.agg (s11C x.st a0 a1 a2 b0 b1 b2 pv av)] w fun e w' => e = .returned (.bool (lightS x)) /\ Fr (fun _ => False) w w' := by
 obtain ⟨pa, pc, rfl, _⟩ := h.p.shape
 obtain ⟨va, vc, rfl⟩ : ∃ a c, av = .slice a x.args.length c := by
  rcases h.v.1 with ⟨h0, a, c, rfl⟩ | ⟨g, o, cap, e, _, _⟩
  ·exact ⟨a, c, by rw [List.map_eq_nil_iff.1 h0]; rfl⟩
  ·exact ⟨_, cap, by rw [e, List.length_map]⟩
 obtain ⟨w1, hw1⟩ : ∃ w1, w1 = w.alloc (.cells (s11C x.st a0 a1 a2 b0 b1 b2 (.slice pa x.prog.length pc) (.slice va x.args.length vc)) 30) := ⟨_, rfl⟩
 have F1 : Hid (Fr (fun _ => False) w w1 /\ w1.heap[w.heap.size]? = some (.cells (s11C x.st a0 a1 a2 b0 b1 b2 (.slice pa x.prog.length pc) (.slice va x.args.length vc)) 30 (0, 0))) := hid (by rw [hw1]; exact ⟨(Fr.refl _ _).alloc _, heap_alloc_new _ _⟩)
 have HT := hid (fun wx (f : Fr (fun _ => False) w1 wx) => light_any x.takes _ wx 4 4 rfl (by omega) (NShows.fr (F1.out.1.trans f fid2) _ _ h.t))
 have HA := hid (fun wx (f : Fr (fun _ => False) w1 wx) => light_any x.answers _ wx 4 4 rfl (by omega) (NShows.fr (F1.out.1.trans f fid2) _ _ h.a))
 have hpl := h.p.1
 generalize hE : lightS x = E
 have HE := hid hE.symm
 clear h hE
 unfold lightS at HE
 generalize lightE x.takes 4 = lt at *
 generalize lightE x.answers 4 = la at *
 generalize hpn : x.prog.length = pn at *
 generalize han : x.args.length = an at *
 clear hpn han
 have q := F1.out.2
 have c0 : w1.cell? ⟨w.heap.size, 0, none⟩ = some a0 := pcells_row q 0 _ rfl
 have c1 : w1.cell? ⟨w.heap.size, 1, none⟩ = some a1 := pcells_row q 1 _ rfl
 have c2 : w1.cell? ⟨w.heap.size, 2, none⟩ = some a2 := pcells_row q 2 _ rfl
 clear q
 simp only [s11C] at hw1
 simp only [s11C]
 go_enter Try.func5, Try.ntmps5
 go_upto_region 1 with fail
 rw [<- hw1]
 clear hw1
 generalize hn : w.heap.size = n0 at *
 go_wp2_with fail
 refine (HT.out w1 (Fr.refl _ _)).mono ?_
 rintro e w2 ⟨rfl, f2⟩
 cases lt with
 | false =>
  go_wp2_with fail
  go_ret
  rw [HE.out]
  exact ⟨rfl, F1.out.1.trans f2 fid2⟩
 | true =>
  have q2 := pbox_kept F1.out.2 f2 (fun h => h)
  have e3 : w2.cell? ⟨n0, 3, none⟩ = some b0 := pcells_row (q2) 3 _ rfl
  have e4 : w2.cell? ⟨n0, 4, none⟩ = some b1 := pcells_row (q2) 4 _ rfl
  have e5 : w2.cell? ⟨n0, 5, none⟩ = some b2 := pcells_row (q2) 5 _ rfl
  have F2 := hid f2
  clear f2 q2 c0 c1 c2
  go_wp2_with fail
  refine (HA.out w2 F2.out).mono ?_
  rintro e w3 ⟨rfl, f3⟩
  cases la with
  | false =>
   go_wp2_with fail
   go_ret
   rw [HE.out]
   exact ⟨rfl, (F1.out.1.trans F2.out fid2).trans f3 fid2⟩
  | true =>
   have q3 := pbox_kept F1.out.2 (F2.out.trans f3 fid2) (fun h => h)
   have e6 : w3.cell? ⟨n0, 6, none⟩ = some (.slice pa pn pc) := pcells_row (q3) 6 _ rfl
   have e15 : w3.cell? ⟨n0, 15, none⟩ = some (.slice va an vc) := pcells_row (q3) 15 _ rfl
   have FF := hid ((F1.out.1.trans F2.out fid2).trans f3 fid2)
   clear q3 f3 e3 e4 e5
   by_cases h30 : pn <= 30
   ·have d30 : decide ((pn : Int) <= 30) = true := by simp; omega
    by_cases h40 : an <= 40
    ·have d40 : decide ((an : Int) <= 40) = true := by simp; omega
     have HE2 := hid (show E = true by rw [HE.out]; simp [h30, h40])
     clear h30 h40
     go_wp2_with fail
     go_ret
     rw [HE2.out]
     exact ⟨rfl, FF.out⟩
    ·have d40 : decide ((an : Int) <= 40) = false := by simp; omega
     have HE2 := hid (show E = false by rw [HE.out]; simp [h30, h40])
     clear h30 h40
     go_wp2_with fail
     go_ret
     rw [HE2.out]
     exact ⟨rfl, FF.out⟩
   ·have d30 : decide ((pn : Int) <= 30) = false := by simp; omega
    have HE2 := hid (show E = false by rw [HE.out]; simp [h30])
    clear h30
    go_wp2_with fail
    go_ret
    rw [HE2.out]
    exact ⟨rfl, FF.out⟩
end
section
attribute [local go_sem] run_store_float
end
section
attribute [local go_sem] run_store_float

def RShows (R : Nat -> Prop) (w : World) : KT -> Value -> Prop
 | .nil, _ => False
 | .mk k m ns n of, v => ∃ vo, v = .agg #[.int .i64 k, .int .i64 m, .int .i64 (ns.length : Nat), vo] /\ (k <= 255 /\ ns.length <= 1000 /\ n <= 1000) /\
  (
   (n = 0 /\ ∃ a c, vo = .slice a 0 c) \/
   ∃ g off cap, R g /\ vo = .slice (some ⟨g, off, none⟩) n cap /\ n <= cap /\ ∀ i, i < n -> ∃ x0 x1 x2 x3,
   w.cell? ⟨g, off + i * 4, none⟩ = some x0 /\ w.cell? ⟨g, off + i * 4 + 1, none⟩ = some x1 /\ w.cell? ⟨g, off + i * 4 + 2, none⟩ = some x2 /\ w.cell? ⟨g, off + i * 4 + 3, none⟩ = some x3 /\
   RShows R w (of i) (.agg #[x0, x1, x2, x3]))

def RKids (R : Nat -> Prop) (w : World) (of : Nat -> KT) (a : Option Addr) (c cap : Nat) : Prop :=
 c = 0 \/ c <= cap /\ ∃ g off, R g /\ a = some ⟨g, off, none⟩ /\ ∀ i, i < c -> ∃ x0 x1 x2 x3,
   w.cell? ⟨g, off + i * 4, none⟩ = some x0 /\ w.cell? ⟨g, off + i * 4 + 1, none⟩ = some x1 /\ w.cell? ⟨g, off + i * 4 + 2, none⟩ = some x2 /\ w.cell? ⟨g, off + i * 4 + 3, none⟩ = some x3 /\
   RShows R w (of i) (.agg #[x0, x1, x2, x3])

theorem RShows.fr {R S : Nat -> Prop} {w w' : World} (hf : Fr S w w') (hS : ∀ k, R k -> ¬ S k) (t : KT) : ∀ v, RShows R w t v -> RShows R w' t v := by
 induction t with
 | nil => exact fun _ h => h.elim
 | mk k m ns n of ih =>
  rintro v ⟨vo, rfl, hb, ho⟩
  refine ⟨vo, rfl, hb, ?_⟩
  rcases ho with h | ⟨g, off, cap, hg, rfl, hle, hc⟩
  ·exact .inl h
  ·refine .inr ⟨g, off, cap, hg, rfl, hle, fun i hi => ?_⟩
   obtain ⟨x0, x1, x2, x3, c0, c1, c2, c3, hx⟩ := hc i hi
   exact ⟨x0, x1, x2, x3, cell_fr hf hS hg c0, cell_fr hf hS hg c1, cell_fr hf hS hg c2, cell_fr hf hS hg c3, ih i _ hx⟩

theorem RShows.mono {R S : Nat -> Prop} {w : World} (hS : ∀ k, k < w.heap.size -> R k -> S k) (t : KT) : ∀ v, RShows R w t v -> RShows S w t v := by
 induction t with
 | nil => exact fun _ h => h.elim
 | mk k m ns n of ih =>
  rintro v ⟨vo, rfl, hb, ho⟩
  refine ⟨vo, rfl, hb, ?_⟩
  rcases ho with h | ⟨g, off, cap, hg, rfl, hle, hc⟩
  ·exact .inl h
  ·cases n with
   | zero => exact .inl ⟨rfl, _, _, rfl⟩
   | succ n =>
    refine .inr ⟨g, off, cap, ?_, rfl, hle, fun i hi => ?_⟩
    ·obtain ⟨x0, x1, x2, x3, c0, _⟩ := hc 0 (by omega)
     exact hS g (World.block_lt_of_cell? w _ c0) hg
    ·obtain ⟨x0, x1, x2, x3, c0, c1, c2, c3, hx⟩ := hc i hi
     exact ⟨x0, x1, x2, x3, c0, c1, c2, c3, ih i _ hx⟩

theorem rshows_open {R : Nat -> Prop} {w : World} {t : KT} {v : Value} (h : RShows R w t v) :
  ∃ (k : Nat) (m : Int) (ns : List Txt) (n : Nat) (of : Nat -> KT) (a : Option Addr) (cap : Nat), t = .mk k m ns n of /\ v = .agg #[.int .i64 k, .int .i64 m, .int .i64 (ns.length : Nat), .slice a n cap] /\ (k <= 255 /\ ns.length <= 1000 /\ n <= 1000) /\ RKids R w of a n cap := by
 cases t with
 | nil => exact h.elim
 | mk k m ns n of =>
  obtain ⟨vo, rfl, hb, ho⟩ := h
  rcases ho with ⟨rfl, a, cap, rfl⟩ | ⟨g, off, cap, hg, rfl, hle, hc⟩
  ·exact ⟨k, m, ns, 0, of, a, cap, rfl, rfl, hb, .inl rfl⟩
  ·exact ⟨k, m, ns, n, of, _, cap, rfl, rfl, hb, .inr ⟨hle, g, off, hg, rfl, hc⟩⟩

theorem rshows_mk {R : Nat -> Prop} {w : World} {k : Nat} {m : Int} {ns : List Txt} {n : Nat} {of : Nat -> KT} {a : Option Addr} {cap : Nat} (hb : k <= 255 /\ ns.length <= 1000 /\ n <= 1000) (hk : RKids R w of a n cap) : RShows R w (.mk k m ns n of) (.agg #[.int .i64 k, .int .i64 m, .int .i64 (ns.length : Nat), .slice a n cap]) := by
 refine ⟨_, rfl, hb, ?_⟩
 rcases hk with rfl | ⟨hle, g, off, hg, rfl, hc⟩
 ·exact .inl ⟨rfl, a, cap, rfl⟩
 ·exact .inr ⟨g, off, cap, hg, rfl, hle, hc⟩

theorem RKids.fr {R S : Nat -> Prop} {w w' : World} {of : Nat -> KT} {a' : Option Addr} {n c' : Nat} (h : RKids R w of a' n c') (hf : Fr S w w') (hS : ∀ k, R k -> ¬ S k) : RKids R w' of a' n c' := by
 rcases h with h | ⟨h1, g, off, hg, rfl, hc⟩
 ·exact .inl h
 ·refine .inr ⟨h1, g, off, hg, rfl, fun i hi => ?_⟩
  obtain ⟨x0, x1, x2, x3, c0, c1, c2, c3, hx⟩ := hc i hi
  exact ⟨x0, x1, x2, x3, cell_fr hf hS hg c0, cell_fr hf hS hg c1, cell_fr hf hS hg c2, cell_fr hf hS hg c3, RShows.fr hf hS _ _ hx⟩

def rShown : Shown KT where
 sh R w t xs := ∃ x0 x1 x2 x3, xs = [x0, x1, x2, x3] /\ RShows R w t (.agg #[x0, x1, x2, x3])
 fr := by
  rintro R S w w' x xs ⟨x0, x1, x2, x3, rfl, h⟩ f hS
  exact ⟨x0, x1, x2, x3, rfl, RShows.fr f hS _ _ h⟩
 mono := by
  rintro R S w x xs ⟨x0, x1, x2, x3, rfl, h⟩ hS
  exact ⟨x0, x1, x2, x3, rfl, RShows.mono hS _ _ h⟩

theorem RShows.lit {R : Nat -> Prop} {w : World} {t : KT} {v : Value} (h : RShows R w t v) :
  ∃ (k m n : Int) (a : Option Addr) (c cap : Nat), v = .agg #[.int .i64 k, .int .i64 m, .int .i64 n, .slice a c cap] := by
 obtain ⟨k, m, ns, n, of, a, cap, _, rfl, _⟩ := rshows_open h
 exact ⟨_, _, _, a, n, cap, rfl⟩

theorem rshows_one {R : Nat -> Prop} {w : World} {t : KT} {y0 y1 y2 y3 : Value} (h : RShows R w t (.agg #[y0, y1, y2, y3])) : ∀ u ∈ [y0, y1, y2, y3], u.oneCell' = true := by
 obtain ⟨k, m, n, a, c, cap, e⟩ := h.lit
 simp only [Value.agg.injEq, Array.mk.injEq, List.cons.injEq, and_true] at e
 obtain ⟨rfl, rfl, rfl, rfl⟩ := e
 intro u hu
 simp at hu
 rcases hu with rfl | rfl | rfl | rfl <;> rfl

theorem ItRow.rkids {e : TypeId} {B : Nat} {X : Nat -> Prop} {w : World} {a : Option Addr} {n cap : Nat} {ts : List KT} (h : ItRow rShown e 4 B X w (.slice a n cap) ts) (of : Nat -> KT) (hof : ∀ i x, ts[i]? = some x -> of i = x) :
  RKids (fun k => B <= k) w of a n cap := by
 rcases h.cells with ⟨rfl, a', c, h4⟩ | ⟨g, cap', hg, e, hle, hc⟩
 ·cases h4; exact .inl rfl
 ·cases e
  refine .inr ⟨hle, g, 0, hg.1, rfl, fun i hi => ?_⟩
  obtain ⟨xs, _, hc, x0, x1, x2, x3, rfl, hx⟩ := hc i ts[i] (List.getElem?_eq_getElem hi)
  refine ⟨x0, x1, x2, x3, hc 0 _ rfl, hc 1 _ rfl, hc 2 _ rfl, hc 3 _ rfl, ?_⟩
  rw [hof i _ (List.getElem?_eq_getElem hi)]
  exact RShows.mono (fun k _ h => h.1) _ _ hx

theorem ItRow.vkids' {e : TypeId} {B : Nat} {X : Nat -> Prop} {w : World} {a : Option Addr} {n cap : Nat} {ts : List VT} (h : ItRow vShown e 4 B X w (.slice a n cap) ts) (of : Nat -> VT) (hof : ∀ i x, ts[i]? = some x -> of i = x) :
  VKids (fun k => B <= k) w of a n cap := by
 rcases h.cells with ⟨rfl, a', c, h4⟩ | ⟨g, cap', hg, e, hle, hc⟩
 ·cases h4; exact .inl rfl
 ·cases e
  refine .inr ⟨hle, g, 0, hg.1, rfl, fun i hi => ?_⟩
  obtain ⟨xs, _, hc, x0, x1, x2, x3, rfl, hx⟩ := hc i ts[i] (List.getElem?_eq_getElem hi)
  refine ⟨x0, x1, x2, x3, hc 0 _ rfl, hc 1 _ rfl, hc 2 _ rfl, hc 3 _ rfl, ?_⟩
  rw [hof i _ (List.getElem?_eq_getElem hi)]
  exact VShows.mono (fun k _ h => h.1) _ _ hx

def CLoc (e : TypeId) (x0 x1 x2 : Value) (wx : World) (lb : Nat) (po : Value) : Prop := wx.heap[lb]? = some (.cells #[x0, x1, x2, po] e (0, 0))

def CDirt (lb : Nat) (po : Value) (k : Nat) : Prop := k = lb \/ po.ownBlock = some k

def CopyS {α : Type} (D : Shown α) (e : TypeId) (x0 x1 x2 : Value) (wr : World) (lb : Nat) (po : Value) (L : List α) (T : α) : List Value -> World -> Prop
 | [], wx => Fr (CDirt lb po) wr wx /\ CLoc e x0 x1 x2 wx lb po /\ ItRow D e 4 (lb + 1) (fun _ => False) wx po L
 | [v], wx => Fr (CDirt lb po) wr wx /\ CLoc e x0 x1 x2 wx lb po /\ ItRow D e 4 (lb + 1) (fun _ => False) wx po L /\ ∃ y0 y1 y2 y3, v = .agg #[y0, y1, y2, y3] /\ D.sh (fun k => wr.heap.size <= k) wx T [y0, y1, y2, y3]
 | [_, u], wx => Fr (CDirt lb po) wr wx /\ CLoc e x0 x1 x2 wx lb po /\ ItRow D e 4 (lb + 1) (fun _ => False) wx po L /\ ∃ gg y0 y1 y2 y3, u = .slice (some ⟨gg, 0, none⟩) 1 1 /\ wx.heap[gg]? = some (.cells #[y0, y1, y2, y3] e (0, 0)) /\ D.sh (fun k => wr.heap.size <= k) wx T [y0, y1, y2, y3]
 | [_, _, x], wx => Fr (CDirt lb po) wr wx /\ CLoc e x0 x1 x2 wx lb po /\ ItRow D e 4 (lb + 1) (fun _ => False) wx x (L ++ [T])
 | _ :: _ :: x :: _ :: _, wx => Fr (CDirt lb po) wr wx /\ CLoc e x0 x1 x2 wx lb x /\ ItRow D e 4 (lb + 1) (fun _ => False) wx x (L ++ [T])

theorem CopyS.f {α : Type} {D : Shown α} {e : TypeId} {x0 x1 x2 : Value} {wr : World} {lb : Nat} {po : Value} {L : List α} {T : α} {cvs : List Value} {wx : World} (h : CopyS D e x0 x1 x2 wr lb po L T cvs wx) : Fr (CDirt lb po) wr wx := by
 match cvs with
 | [] => exact h.1
 | [_] => exact h.1
 | [_, _] => exact h.1
 | [_, _, _] => exact h.1
 | _ :: _ :: _ :: _ :: _ => exact h.1

theorem CopyS.loc {α : Type} {D : Shown α} {e : TypeId} {x0 x1 x2 : Value} {wr : World} {lb : Nat} {po : Value} {L : List α} {T : α} {cvs : List Value} {wx : World} (h : CopyS D e x0 x1 x2 wr lb po L T cvs wx) (hc : cvs.length <= 3) : CLoc e x0 x1 x2 wx lb po := by
 match cvs with
 | [] => exact h.2.1
 | [_] => exact h.2.1
 | [_, _] => exact h.2.1
 | [_, _, _] => exact h.2.1
 | _ :: _ :: _ :: _ :: _ => simp at hc

theorem Try.infoRV : (Try.prog.info? 58).map (fun i => (i.zero, i.size, i.bytes)) = some (some (.agg #[.int .i64 0, .float .f64 0, .string ⟨#[]⟩, .slice none 0 0]), 4, 56) := by kernel_rfl
theorem Try.infoRT : (Try.prog.info? 54).map (fun i => (i.zero, i.size, i.bytes)) = some (some (.agg #[.int .i64 0, .int .i64 0, .int .i64 0, .slice none 0 0]), 4, 48) := by kernel_rfl

theorem map_range_of {α : Type} {f : Nat -> α} {n i : Nat} {x : α} (h : ((List.range n).map f)[i]? = some x) : f i = x := by
 rw [List.getElem?_map] at h
 by_cases hlt : i < n
 ·rw [List.getElem?_range hlt] at h
  simpa using h
 ·rw [List.getElem?_eq_none (by simp; omega)] at h
  cases h

def refAt (t : KT) : Prop := ∀ (R : Nat -> Prop) (v : Value) (w : World), Shows R w t v -> goodE t ->
 Calls Try.prog 8 #[v] w fun e w' => ∃ v', e = .returned v' /\ RShows (fun k => w.heap.size <= k) w' t v' /\ Fr (fun _ => False) w w'

set_option maxRecDepth 100000 in
theorem ref_any (t : KT) : refAt t := by
 induction t with
 | nil => exact fun _ _ _ h => h.elim
 | mk k m ns n of ih =>
 intro R v w hsh hgood
 obtain ⟨⟨hn12, hown⟩, hkids⟩ := hgood
 obtain ⟨vn, vo, rfl, hk, hn, ht, ho⟩ := hsh
 obtain ⟨na, nc, rfl, _⟩ := ht.shape
 have hnl : ns.length <= 1000 := ht.1
 obtain ⟨a', c', rfl, hs⟩ : ∃ a' c', vo = .slice a' n c' /\ Kids R w of a' n c' := by
  rcases ho with ⟨rfl, a', c', rfl⟩ | ⟨g, off, cap, hg, rfl, hle, hc⟩
  ·exact ⟨a', c', rfl, .inl rfl⟩
  ·exact ⟨_, cap, rfl, .inr ⟨hle, g, off, hg, rfl, hc⟩⟩
 have HS := hid hs
 have HGD := hid hkids
 have hn1 : n <= 1000 := by omega
 clear ho hs ht hkids hown
 obtain ⟨w1, hw1⟩ : ∃ w1, w1 = ((w.alloc (.cells #[.int .u8 k, .int .i64 m, .slice na ns.length nc, .slice a' n c'] 36)).alloc (.cells #[.int .i64 0, .int .i64 0, .int .i64 0, .slice none 0 0] 54)).alloc (.cells #[.int .i64 k, .int .i64 m, .int .i64 (ns.length : Nat), .slice none 0 0] 54) := ⟨_, rfl⟩
 have f1 : Fr (fun _ => False) w w1 := by rw [hw1]; exact (((Fr.refl _ _).alloc _).alloc _).alloc _
 have q1 : w1.heap[w.heap.size]? = some (.cells #[.int .u8 k, .int .i64 m, .slice na ns.length nc, .slice a' n c'] 36 (0, 0)) := by
  rw [hw1, Below.heap_alloc _ _ _ (by simp; omega)]; exact heap_alloc_first _ _ _
 have p1 : w1.heap[w.heap.size + 1]? = some (.cells #[.int .i64 0, .int .i64 0, .int .i64 0, .slice none 0 0] 54 (0, 0)) := by
  rw [hw1, Below.heap_alloc _ _ _ (by simp)]; exact heap_alloc_two _ _ _
 have l1 : CLoc 54 (.int .i64 k) (.int .i64 m) (.int .i64 (ns.length : Nat)) w1 (w.heap.size + 1 + 1) (.slice none 0 0) := by
  have h := heap_alloc_new ((w.alloc (.cells #[.int .u8 k, .int .i64 m, .slice na ns.length nc, .slice a' n c'] 36)).alloc (.cells #[.int .i64 0, .int .i64 0, .int .i64 0, .slice none 0 0] 54)) (.cells #[.int .i64 k, .int .i64 m, .int .i64 (ns.length : Nat), .slice none 0 0] 54)
  rw [show ((w.alloc (.cells #[.int .u8 k, .int .i64 m, .slice na ns.length nc, .slice a' n c'] 36)).alloc (.cells #[.int .i64 0, .int .i64 0, .int .i64 0, .slice none 0 0] 54)).heap.size = w.heap.size + 1 + 1 by simp] at h
  rw [hw1]
  exact h
 have w0n : w.heap.size ≠ w.heap.size + 1 := by omega
 obtain ⟨w0, hw0⟩ : ∃ w0, w0 = (w.alloc (.cells #[.int .u8 k, .int .i64 m, .slice na ns.length nc, .slice a' n c'] 36)).alloc (.cells #[.int .i64 0, .int .i64 0, .int .i64 0, .slice none 0 0] 54) := ⟨_, rfl⟩
 have q0 : w0.heap[w.heap.size]? = some (.cells #[.int .u8 k, .int .i64 m, .slice na ns.length nc, .slice a' n c'] 36 (0, 0)) := by rw [hw0]; exact heap_alloc_first _ _ _
 obtain ⟨c0, c1, c2, c3⟩ := cell_of_four q0
 have sz0 : w0.heap.size = w.heap.size + 1 + 1 := by rw [hw0]; simp
 go_enter Try.func8, Try.ntmps8
 go_upto_region 1 with fail
 rw [<- hw0]
 have HW1 := hid (show w1 = w0.alloc (.cells #[.int .i64 k, .int .i64 m, .int .i64 (ns.length : Nat), .slice none 0 0] 54) from by rw [hw1, hw0])
 clear hw0 hw1 q0 w0n
 go_upto_region 2 with fail
 rw [<- HW1.out]
 try rw [sz0]
 clear c0 c1 c2 c3 sz0
 obtain ⟨lb, hlb⟩ : ∃ lb, w.heap.size + 1 + 1 = lb := ⟨_, rfl⟩
 obtain ⟨rb, hrb⟩ : ∃ rb, w.heap.size + 1 = rb := ⟨_, rfl⟩
 rw [hlb] at l1 ⊢
 rw [hrb] at p1 ⊢
 have o1 : w.heap.size < rb := by omega
 have o2 : rb < lb := by omega
 have c3 := cells_row q1 3 _ rfl
 have H1 := hid (And.intro f1 (And.intro p1 l1))
 clear f1 q1 p1 l1 hlb hrb
 go_wp2
 clear c3
 go_loopg [5, 18] n (fun G u5 uc wr => ∃ (j : Nat) (po : Value), j <= n /\ G = n - j /\ uc = .int .i64 j /\ Hid (Fr (fun _ => False) w wr /\ CLoc 54 (.int .i64 k) (.int .i64 m) (.int .i64 (ns.length : Nat)) wr lb po /\ ItRow rShown 54 4 (lb + 1) (fun _ => False) wr po ((List.range j).map of) /\ wr.heap[rb]? = some (.cells #[.int .i64 0, .int .i64 0, .int .i64 0, .slice none 0 0] 54 (0, 0))))
 case atStart => exact ⟨0, .slice none 0 0, Nat.zero_le _, rfl, by go_num, hid ⟨H1.out.1, H1.out.2.2, ItRow.nil _ _ _ _ _ _, H1.out.2.1⟩⟩
 case round =>
  obtain ⟨j, po, hj, rfl, rfl, HI⟩ := hrel
  obtain ⟨qa, qc, hpo⟩ : ∃ qa qc, po = .slice qa j qc := by
   obtain ⟨qa, qc, e⟩ := HI.out.2.2.1.slice
   rw [show ((List.range j).map of).length = j by simp] at e
   exact ⟨qa, qc, e⟩
  subst hpo
  have hlbr : lb < wr.heap.size := lt_of_block HI.out.2.1
  by_cases hlt : j < n
  ·rcases HS.out with hz | ⟨hcap, g, off, hg, rfl, hcell⟩
   ·omega
   obtain ⟨x0, x1, x2, x3, y0, y1, y2, y3, hx⟩ := hcell j hlt
   have y0 := cell_fr HI.out.1 fid2 hg y0
   have y1 := cell_fr HI.out.1 fid2 hg y1
   have y2 := cell_fr HI.out.1 fid2 hg y2
   have y3 := cell_fr HI.out.1 fid2 hg y3
   obtain ⟨xk, xm, xa, xn, xc, xa', xn', xc', rfl, rfl, rfl, rfl⟩ := hx.cells
   have HX := hid (Shows.fr HI.out.1 fid2 _ _ (Shows.mono (S := fun k => R k /\ k < w.heap.size) (fun k hk h => ⟨h, hk⟩) _ _ hx))
   have HLT := hid hlt
   have jn : (j : Int) < (n : Int) := by omega
   have j0 : (0 : Int) <= (j : Int) := by omega
   clear hcell hx
   go_wp2_with fail
   obtain ⟨wp, hwp⟩ : ∃ wp, wp = wr.alloc (.cells #[.int .u8 xk, .int .i64 xm, .slice xa xn xc, .slice xa' xn' xc'] 36) := ⟨_, rfl⟩
   rw [<- hwp]
   obtain ⟨pb, hpb⟩ : ∃ pb, wr.heap.size = pb := ⟨_, rfl⟩
   have fp : Fr (fun _ => False) wr wp := by rw [hwp]; exact (Fr.refl _ _).alloc _
   have qp : wp.heap[pb]? = some (.cells #[.int .u8 xk, .int .i64 xm, .slice xa xn xc, .slice xa' xn' xc'] 36 (0, 0)) := by rw [hwp, <- hpb]; exact heap_alloc_new _ _
   have hown : ∀ k, (Value.slice qa j qc).ownBlock = some k -> lb + 1 <= k /\ k < pb := fun k hk => by
    have := HI.out.2.2.1.own k hk
    omega
   have hpbw : pb < wp.heap.size := lt_of_block qp
   have hpbv : lb < pb := by omega
   rw [hpb]
   have HP := hid (And.intro fp (And.intro qp hown))
   have HB0 := hid (And.intro hpbv (And.intro o1 o2))
   clear hwp hpb fp qp hown y0 y1 y2 y3 hlt jn j0
   have hacc : CopyS rShown 54 (.int .i64 k) (.int .i64 m) (.int .i64 (ns.length : Nat)) wp lb (.slice qa j qc) ((List.range j).map of) (of j) [] wp.drew :=
    ⟨(Fr.refl _ _).drew, box_kept HI.out.2.1 (HP.out.1.drew) (fun h => h), HI.out.2.2.1.fr (HP.out.1.drew) fid2⟩
   have HACC := hid hacc
   clear hacc
   refine wp_region_chain (by kernel_rfl) [some 22, some 23, some 24, some 25, some 26, some 27, some 28, none] rfl (by decide) (by intro d hd; simp at hd ⊢; omega)
    [3, 4, 5, 7] (CopyS rShown 54 (.int .i64 k) (.int .i64 m) (.int .i64 (ns.length : Nat)) wp lb (.slice qa j qc) ((List.range j).map of) (of j))
    [.free (.pointer (some ⟨lb, 3, none⟩)), .free (.slice qa j qc), .free (.agg #[.int .u8 xk, .int .i64 xm, .slice xa xn xc, .slice xa' xn' xc']), .link none, .link none, .link none, .free (.pointer (some ⟨lb, 3, none⟩)), .link none]
    (by kernel_rfl) (by kernel_rfl) ?h0 ?step ?fin
   case h0 => exact HACC.out
   case step =>
    intro vals2
    simp only [frOfU, fillU, zsl]
    repeat' (first | exact AllOps.nil | refine AllOps.cons ?_ ?_)
    all_goals
     intro cvs wx hS he hu hlim K hK
     simp only [Act.put, zsl, zgl] at hK
     simp only [zml, Region.binds, forall_const, vmode_gc, Bool.false_eq_true, false_imp_iff, zgl, OpSort.val, Option.some.injEq, forall_eq', reduceCtorEq, implies_true, true_and, and_true] at he
     have HSX := hid hS
     clear hS
    all_goals first | (clear hlim hu; (try simp only [he] at hK ⊢); go_simp; exact hK) | skip
    ·have hl := HSX.out.loc (Nat.le_trans (hlim 2 5 rfl (by kernel_rfl)) (by omega))
     have e3 := cells_row hl 3 _ rfl
     clear hlim hu hl
     simp only [he] at hK ⊢
     go_simp
     exact hK
    ·have hq := box_kept HP.out.2.1 HSX.out.f (fun h => by
      rcases h with h | h
      ·have := HB0.out; omega
      ·have := (HP.out.2.2 _ h).2; omega)
     obtain ⟨e0, e1, e2, e3⟩ := cell_of_four hq
     clear hlim hu hq
     simp only [he] at hK ⊢
     go_simp
     exact hK
    ·obtain rfl := hlim (0 : Nat) rfl
     have h1 := HSX.out
     simp only [List.take_zero, List.map_nil] at h1
     simp only [he] at hK ⊢
     go_simp
     go_at_call 8
     have hR : ∀ k, (R k /\ k < w.heap.size) -> ¬ CDirt lb (.slice qa j qc) k := fun k hk h => by
      rcases h with h | h
      ·have := HB0.out; omega
      ·have := (HP.out.2.2 _ h).1; have := HB0.out; omega
     refine (ih j (fun k => R k /\ k < w.heap.size) _ wx (Shows.fr h1.1 hR _ _ (Shows.fr HP.out.1 fid2 _ _ HX.out)) (HGD.out j HLT.out)).mono ?_
     rintro e1 wa ⟨v', rfl, hsv, fa⟩
     have hx1 := hsv
     obtain ⟨zk, zm, zn, za, zc, zcap, e4⟩ := hx1.lit
     subst e4
     exact hK _ _ (fun _ h => by cases h) ⟨h1.1.trans fa (fun i _ h => h.elim), box_kept h1.2.1 fa (fun h => h), h1.2.2.fr fa fid2, _, _, _, _, rfl, _, _, _, _, rfl, RShows.mono (fun k _ hk => Nat.le_trans h1.1.size hk) _ _ hsv⟩
    ·obtain rfl := hlim (1 : Nat) rfl
     have h1 := HSX.out
     clear HSX hlim hu
     simp only [List.take_succ_cons, List.take_zero, List.map_cons, List.map_nil] at h1 hK
     obtain ⟨hf, hl, hr, z0, z1, z2, z3, e5, hs⟩ := h1
     simp only [he, e5] at hK ⊢
     go_simp
     have fa : Fr (fun _ => False) wx (wx.alloc (.cells #[z0, z1, z2, z3] 54)) := (Fr.refl _ _).alloc _
     exact hK _ _ (fun _ h => by cases h) ⟨hf.trans fa (fun _ _ h => h.elim), box_kept hl fa (fun h => h), hr.fr fa fid2, _, _, _, _, _, rfl, heap_alloc_new _ _, rShown.fr hs fa fid2⟩
    ·obtain rfl := hlim (2 : Nat) rfl
     have h1 := HSX.out
     clear HSX hlim hu
     simp only [List.take_succ_cons, List.take_zero, List.map_cons, List.map_nil] at h1 hK
     obtain ⟨hf, hl, hr, gg, z0, z1, z2, z3, e6, hgg, hss⟩ := h1
     rw [if_pos (by rfl)]
     have hsz := lt_of_block hl
     have hfs := hf.size
     have hb0 := HB0.out
     refine opWp_push (pv := (.slice qa j qc)) (l := (List.range j).map of) (B := lb + 1) (X := fun _ => False) (D := rShown) (.tmp 23) (.tmp 26) 52 52 rfl Try.underlying52 Try.underlying52 Try.infoRT rfl (by decide) he hr gg e6 (news := [z0, z1, z2, z3]) hgg rfl (by obtain ⟨_, _, _, _, e, h⟩ := hss; cases e; exact rshows_one h) (by simp; omega) (by omega) (by omega) (fun k hk => hk.elim) (of j) (rShown.mono hss (fun k _ hk => ⟨by omega, fun h => h, fun h => by have := (HP.out.2.2 _ h).2; omega⟩)) ?_
     intro v' w8 hrow f6 hv
     refine hK _ _ (fun _ h => by cases h) ⟨hf.trans f6 (fun i _ h => .inr h), box_kept hl f6 (fun h => by have := (HP.out.2.2 _ h).1; omega), hrow⟩
    ·obtain rfl := hlim (3 : Nat) rfl
     have h1 := HSX.out
     clear HSX hlim hu
     simp only [List.take_succ_cons, List.take_zero, List.map_cons, List.map_nil] at h1 hK
     obtain ⟨hf, hl, hr⟩ := h1
     obtain ⟨xa2, xn2, xc2, e7⟩ : ∃ xa xn xc, vals2 5 = .slice xa xn xc := by obtain ⟨a, c, e⟩ := hr.slice; exact ⟨a, _, c, e⟩
     have z2 : wx.frozen? ⟨lb, 3, none⟩ = false := by unfold CLoc at hl; simp [World.frozen?, hl]
     obtain ⟨e0, e1, e2, e3⟩ := cell_of_four hl
     have fs : Fr (fun k => k = lb) wx (wx.setCell ⟨lb, 3, none⟩ (vals2 5)) := Fr.set1 (Fr.refl _ _) 3 _
     have HG := hid (show CopyS rShown 54 (.int .i64 k) (.int .i64 m) (.int .i64 (ns.length : Nat)) wp lb (.slice qa j qc) ((List.range j).map of) (of j) [vals2 3, vals2 4, vals2 5, undef] (wx.setCell ⟨lb, 3, none⟩ (vals2 5)) from
      ⟨hf.trans fs (fun i _ h => .inl h), setCell_row 3 _ hl, hr.fr fs (fun k hk h => by omega)⟩)
     clear hf hl hr fs
     rw [e7] at HG
     simp only [he, e7] at hK ⊢
     go_simp
     exact hK undef _ (fun _ h => by cases h) HG.out
   case fin =>
    intro vals2 w7 hS hV
    clear hV
    simp only [List.map_cons, List.map_nil] at hS
    obtain ⟨hf, hl, hr⟩ := hS
    have hd : ∀ i, i < w.heap.size -> ¬ CDirt lb (.slice qa j qc) i := fun i hi h => by
     rcases h with h | h
     ·have := HB0.out; omega
     ·have := (HP.out.2.2 _ h).1; have := HB0.out; omega
    have f0 := HI.out.1.trans HP.out.1 fid2
    have fw : Fr (fun _ => False) w w7 := ⟨hf.os.trans f0.os, hf.tape.trans f0.tape, hf.output.trans f0.output, Nat.le_trans f0.size hf.size, fun i hi hs => by
     rw [hf.block i (Nat.lt_of_lt_of_le hi f0.size) (hd i hi), f0.block i hi hs]⟩
    have hrbk := box_kept (box_kept HI.out.2.2.2 HP.out.1 (fun h => h)) hf (fun h => by
     rcases h with h | h
     ·omega
     ·have := (HP.out.2.2 _ h).1; omega)
    have HS2 := hid (show Fr (fun _ => False) w w7 /\ CLoc 54 (.int .i64 k) (.int .i64 m) (.int .i64 (ns.length : Nat)) w7 lb (vals2 5) /\ ItRow rShown 54 4 (lb + 1) (fun _ => False) w7 (vals2 5) ((List.range (j + 1)).map of) /\ w7.heap[rb]? = some (.cells #[.int .i64 0, .int .i64 0, .int .i64 0, .slice none 0 0] 54 (0, 0)) from by
     rw [List.range_succ, List.map_append]; exact ⟨fw, hl, hr, hrbk⟩)
    clear hf hl hr fw hrbk hd f0
    simp only [frOfU, fillU, zsl]
    go_wp2
    go_roundg (n - (j + 1))
    case measure => have := HLT.out; omega
    case rel => exact ⟨j + 1, vals2 5, HLT.out, rfl, by go_num, HS2⟩
  ·obtain rfl : j = n := by omega
   obtain ⟨d0, d1, d2, d3⟩ := cell_of_four HI.out.2.1
   have p2 := HI.out.2.2.2
   have t0 := cells_row p2 0 _ rfl
   have t1 := cells_row p2 1 _ rfl
   have t2 := cells_row p2 2 _ rfl
   have t3 := cells_row p2 3 _ rfl
   have u0 : wr.frozen? ⟨rb, 0, none⟩ = false := by simp [World.frozen?, p2]
   have u1 : wr.frozen? ⟨rb, 1, none⟩ = false := by simp [World.frozen?, p2]
   have u2 : wr.frozen? ⟨rb, 2, none⟩ = false := by simp [World.frozen?, p2]
   have u3 : wr.frozen? ⟨rb, 3, none⟩ = false := by simp [World.frozen?, p2]
   clear p2
   go_wp2
   refine bodyPost_ret (results_cell_row rfl _ _ rb 54 _ _ _ rfl (store_four HI.out.2.2.2) Try.underlying54 rfl (by kernel_rfl)) rfl ?_
   have fs : Fr (fun k => k = rb) wr ((((wr.setCell ⟨rb, 0, none⟩ (.int .i64 k)).setCell ⟨rb, 1, none⟩ (.int .i64 m)).setCell ⟨rb, 2, none⟩ (.int .i64 (ns.length : Nat))).setCell ⟨rb, 3, none⟩ (.slice qa j qc)) := fr_four _ _ _ _ (Fr.refl _ _) (fun _ => rfl)
   refine ⟨_, rfl, ?_, HI.out.1.trans fs (fun i hi h => by omega)⟩
   have hk0 := ItRow.rkids HI.out.2.2.1 of (fun i x hi => map_range_of hi)
   exact RShows.mono (fun k _ (h : lb + 1 <= k) => by omega) _ _ (rshows_mk (ns := ns) ⟨hk, hnl, by omega⟩ (hk0.fr fs (fun k (hk : lb + 1 <= k) e => by omega)))

def refvAt (t : VT) : Prop := ∀ (R : Nat -> Prop) (v : Value) (w : World), VShows R w t v -> szV t <= 1000 ->
 Calls Try.prog 9 #[v] w fun e w' => ∃ v', e = .returned v' /\ VShows (fun k => w.heap.size <= k) w' t v' /\ Fr (fun _ => False) w w'

set_option maxRecDepth 100000 in
theorem refv_any (t : VT) : refvAt t := by
 induction t with
 | nil => exact fun _ _ _ h => h.elim
 | mk N f sx n of ih =>
 intro R v w hsh hszv
 obtain ⟨_, _, _, _, _, a', c', e1, rfl, hVB, hs⟩ := vshows_open hsh
 cases e1
 have HB := hid hVB
 have HS := hid hs
 have hn1 : n <= 1000 := by
  have h := hszv
  rw [szV] at h
  have hall : ∀ j, j <= ((List.range j).map fun i => szV (of i)).sum := fun j => by
   induction j with
   | zero => simp
   | succ j ih => rw [List.range_succ, List.map_append, List.sum_append]; have := szV_pos (of j); simp; omega
  have := hall n
  omega
 have HSZ := hid (show ∀ j, j < n -> szV (of j) <= 1000 from fun j hj => by
  have h := hszv
  rw [szV] at h
  have h2 := sumTo_le (fun i => szV (of i)) j n hj
  unfold sumTo at h2
  omega)
 unfold sv
 clear hsh hVB hs hszv
 obtain ⟨w1, hw1⟩ : ∃ w1, w1 = ((w.alloc (.cells #[.int .i64 N, .float .f64 f, .string ⟨sx.toArray⟩, .slice a' n c'] 44)).alloc (.cells #[.int .i64 0, .float .f64 0, .string ⟨#[]⟩, .slice none 0 0] 58)).alloc (.cells #[.int .i64 N, .float .f64 f, .string ⟨sx.toArray⟩, .slice none 0 0] 58) := ⟨_, rfl⟩
 have f1 : Fr (fun _ => False) w w1 := by rw [hw1]; exact (((Fr.refl _ _).alloc _).alloc _).alloc _
 have q1 : w1.heap[w.heap.size]? = some (.cells #[.int .i64 N, .float .f64 f, .string ⟨sx.toArray⟩, .slice a' n c'] 44 (0, 0)) := by
  rw [hw1, Below.heap_alloc _ _ _ (by simp; omega)]; exact heap_alloc_first _ _ _
 have p1 : w1.heap[w.heap.size + 1]? = some (.cells #[.int .i64 0, .float .f64 0, .string ⟨#[]⟩, .slice none 0 0] 58 (0, 0)) := by
  rw [hw1, Below.heap_alloc _ _ _ (by simp)]; exact heap_alloc_two _ _ _
 have l1 : CLoc 58 (.int .i64 N) (.float .f64 f) (.string ⟨sx.toArray⟩) w1 (w.heap.size + 1 + 1) (.slice none 0 0) := by
  have h := heap_alloc_new ((w.alloc (.cells #[.int .i64 N, .float .f64 f, .string ⟨sx.toArray⟩, .slice a' n c'] 44)).alloc (.cells #[.int .i64 0, .float .f64 0, .string ⟨#[]⟩, .slice none 0 0] 58)) (.cells #[.int .i64 N, .float .f64 f, .string ⟨sx.toArray⟩, .slice none 0 0] 58)
  rw [show ((w.alloc (.cells #[.int .i64 N, .float .f64 f, .string ⟨sx.toArray⟩, .slice a' n c'] 44)).alloc (.cells #[.int .i64 0, .float .f64 0, .string ⟨#[]⟩, .slice none 0 0] 58)).heap.size = w.heap.size + 1 + 1 by simp] at h
  rw [hw1]
  exact h
 have w0n : w.heap.size ≠ w.heap.size + 1 := by omega
 obtain ⟨w0, hw0⟩ : ∃ w0, w0 = (w.alloc (.cells #[.int .i64 N, .float .f64 f, .string ⟨sx.toArray⟩, .slice a' n c'] 44)).alloc (.cells #[.int .i64 0, .float .f64 0, .string ⟨#[]⟩, .slice none 0 0] 58) := ⟨_, rfl⟩
 have q0 : w0.heap[w.heap.size]? = some (.cells #[.int .i64 N, .float .f64 f, .string ⟨sx.toArray⟩, .slice a' n c'] 44 (0, 0)) := by rw [hw0]; exact heap_alloc_first _ _ _
 obtain ⟨c0, c1, c2, c3⟩ := cell_of_four q0
 have sz0 : w0.heap.size = w.heap.size + 1 + 1 := by rw [hw0]; simp
 go_enter Try.func9, Try.ntmps9
 go_upto_region 1 with fail
 rw [<- hw0]
 have HW1 := hid (show w1 = w0.alloc (.cells #[.int .i64 N, .float .f64 f, .string ⟨sx.toArray⟩, .slice none 0 0] 58) from by rw [hw1, hw0])
 clear hw0 hw1 q0 w0n
 go_upto_region 2 with fail
 rw [<- HW1.out]
 try rw [sz0]
 clear c0 c1 c2 c3 sz0
 obtain ⟨lb, hlb⟩ : ∃ lb, w.heap.size + 1 + 1 = lb := ⟨_, rfl⟩
 obtain ⟨rb, hrb⟩ : ∃ rb, w.heap.size + 1 = rb := ⟨_, rfl⟩
 rw [hlb] at l1 ⊢
 rw [hrb] at p1 ⊢
 have o1 : w.heap.size < rb := by omega
 have o2 : rb < lb := by omega
 have c3 := cells_row q1 3 _ rfl
 have H1 := hid (And.intro f1 (And.intro p1 l1))
 clear f1 q1 p1 l1 hlb hrb
 go_wp2
 clear c3
 go_loopg [5, 16] n (fun G u5 uc wr => ∃ (j : Nat) (po : Value), j <= n /\ G = n - j /\ uc = .int .i64 j /\ Hid (Fr (fun _ => False) w wr /\ CLoc 58 (.int .i64 N) (.float .f64 f) (.string ⟨sx.toArray⟩) wr lb po /\ ItRow vShown 58 4 (lb + 1) (fun _ => False) wr po ((List.range j).map of) /\ wr.heap[rb]? = some (.cells #[.int .i64 0, .float .f64 0, .string ⟨#[]⟩, .slice none 0 0] 58 (0, 0))))
 case atStart => exact ⟨0, .slice none 0 0, Nat.zero_le _, rfl, by go_num, hid ⟨H1.out.1, H1.out.2.2, ItRow.nil _ _ _ _ _ _, H1.out.2.1⟩⟩
 case round =>
  obtain ⟨j, po, hj, rfl, rfl, HI⟩ := hrel
  obtain ⟨qa, qc, hpo⟩ : ∃ qa qc, po = .slice qa j qc := by
   obtain ⟨qa, qc, e⟩ := HI.out.2.2.1.slice
   rw [show ((List.range j).map of).length = j by simp] at e
   exact ⟨qa, qc, e⟩
  subst hpo
  have hlbr : lb < wr.heap.size := lt_of_block HI.out.2.1
  by_cases hlt : j < n
  ·rcases HS.out with hz | ⟨hcap, g, off, hg, rfl, hcell⟩
   ·omega
   obtain ⟨x0, x1, x2, x3, y0, y1, y2, y3, hx⟩ := hcell j hlt
   have y0 := cell_fr HI.out.1 fid2 hg y0
   have y1 := cell_fr HI.out.1 fid2 hg y1
   have y2 := cell_fr HI.out.1 fid2 hg y2
   have y3 := cell_fr HI.out.1 fid2 hg y3
   obtain ⟨xn, xf, xs, xa, xc, xcap, ex⟩ := hx.lit
   simp only [Value.agg.injEq, Array.mk.injEq, List.cons.injEq, and_true] at ex
   obtain ⟨rfl, rfl, rfl, rfl⟩ := ex
   have HX := hid (VShows.fr HI.out.1 fid2 _ _ (VShows.mono (S := fun k => R k /\ k < w.heap.size) (fun k hk h => ⟨h, hk⟩) _ _ hx))
   have HLT := hid hlt
   have jn : (j : Int) < (n : Int) := by omega
   have j0 : (0 : Int) <= (j : Int) := by omega
   clear hcell hx
   go_wp2_with fail
   obtain ⟨wp, hwp⟩ : ∃ wp, wp = wr.alloc (.cells #[.int .i64 xn, .float .f64 xf, .string xs, .slice xa xc xcap] 44) := ⟨_, rfl⟩
   rw [<- hwp]
   obtain ⟨pb, hpb⟩ : ∃ pb, wr.heap.size = pb := ⟨_, rfl⟩
   have fp : Fr (fun _ => False) wr wp := by rw [hwp]; exact (Fr.refl _ _).alloc _
   have qp : wp.heap[pb]? = some (.cells #[.int .i64 xn, .float .f64 xf, .string xs, .slice xa xc xcap] 44 (0, 0)) := by rw [hwp, <- hpb]; exact heap_alloc_new _ _
   have hown : ∀ k, (Value.slice qa j qc).ownBlock = some k -> lb + 1 <= k /\ k < pb := fun k hk => by
    have := HI.out.2.2.1.own k hk
    omega
   have hpbw : pb < wp.heap.size := lt_of_block qp
   have hpbv : lb < pb := by omega
   rw [hpb]
   have HP := hid (And.intro fp (And.intro qp hown))
   have HB0 := hid (And.intro hpbv (And.intro o1 o2))
   clear hwp hpb fp qp hown y0 y1 y2 y3 hlt jn j0
   have hacc : CopyS vShown 58 (.int .i64 N) (.float .f64 f) (.string ⟨sx.toArray⟩) wp lb (.slice qa j qc) ((List.range j).map of) (of j) [] wp.drew :=
    ⟨(Fr.refl _ _).drew, box_kept HI.out.2.1 (HP.out.1.drew) (fun h => h), HI.out.2.2.1.fr (HP.out.1.drew) fid2⟩
   have HACC := hid hacc
   clear hacc
   refine wp_region_chain (by kernel_rfl) [some 20, some 21, some 22, some 23, some 24, some 25, some 26, none] rfl (by decide) (by intro d hd; simp at hd ⊢; omega)
    [3, 4, 5, 7] (CopyS vShown 58 (.int .i64 N) (.float .f64 f) (.string ⟨sx.toArray⟩) wp lb (.slice qa j qc) ((List.range j).map of) (of j))
    [.free (.pointer (some ⟨lb, 3, none⟩)), .free (.slice qa j qc), .free (.agg #[.int .i64 xn, .float .f64 xf, .string xs, .slice xa xc xcap]), .link none, .link none, .link none, .free (.pointer (some ⟨lb, 3, none⟩)), .link none]
    (by kernel_rfl) (by kernel_rfl) ?h0 ?step ?fin
   case h0 => exact HACC.out
   case step =>
    intro vals2
    simp only [frOfU, fillU, zsl]
    repeat' (first | exact AllOps.nil | refine AllOps.cons ?_ ?_)
    all_goals
     intro cvs wx hS he hu hlim K hK
     simp only [Act.put, zsl, zgl] at hK
     simp only [zml, Region.binds, forall_const, vmode_gc, Bool.false_eq_true, false_imp_iff, zgl, OpSort.val, Option.some.injEq, forall_eq', reduceCtorEq, implies_true, true_and, and_true] at he
     have HSX := hid hS
     clear hS
    all_goals first | (clear hlim hu; (try simp only [he] at hK ⊢); go_simp; exact hK) | skip
    ·have hl := HSX.out.loc (Nat.le_trans (hlim 2 5 rfl (by kernel_rfl)) (by omega))
     have e3 := cells_row hl 3 _ rfl
     clear hlim hu hl
     simp only [he] at hK ⊢
     go_simp
     exact hK
    ·have hq := box_kept HP.out.2.1 HSX.out.f (fun h => by
      rcases h with h | h
      ·have := HB0.out; omega
      ·have := (HP.out.2.2 _ h).2; omega)
     obtain ⟨e0, e1, e2, e3⟩ := cell_of_four hq
     clear hlim hu hq
     simp only [he] at hK ⊢
     go_simp
     exact hK
    ·obtain rfl := hlim (0 : Nat) rfl
     have h1 := HSX.out
     simp only [List.take_zero, List.map_nil] at h1
     simp only [he] at hK ⊢
     go_simp
     go_at_call 9
     have hR : ∀ k, (R k /\ k < w.heap.size) -> ¬ CDirt lb (.slice qa j qc) k := fun k hk h => by
      rcases h with h | h
      ·have := HB0.out; omega
      ·have := (HP.out.2.2 _ h).1; have := HB0.out; omega
     refine (ih j (fun k => R k /\ k < w.heap.size) _ wx (VShows.fr h1.1 hR _ _ (VShows.fr HP.out.1 fid2 _ _ HX.out)) (HSZ.out j HLT.out)).mono ?_
     rintro e1 wa ⟨v', rfl, hsv, fa⟩
     have hx1 := hsv
     obtain ⟨zn, zf, zs, za, zc, zcap, e4⟩ := hx1.lit
     subst e4
     exact hK _ _ (fun _ h => by cases h) ⟨h1.1.trans fa (fun i _ h => h.elim), box_kept h1.2.1 fa (fun h => h), h1.2.2.fr fa fid2, _, _, _, _, rfl, _, _, _, _, rfl, VShows.mono (fun k _ hk => Nat.le_trans h1.1.size hk) _ _ hsv⟩
    ·obtain rfl := hlim (1 : Nat) rfl
     have h1 := HSX.out
     clear HSX hlim hu
     simp only [List.take_succ_cons, List.take_zero, List.map_cons, List.map_nil] at h1 hK
     obtain ⟨hf, hl, hr, z0, z1, z2, z3, e5, hs⟩ := h1
     simp only [he, e5] at hK ⊢
     go_simp
     have fa : Fr (fun _ => False) wx (wx.alloc (.cells #[z0, z1, z2, z3] 58)) := (Fr.refl _ _).alloc _
     exact hK _ _ (fun _ h => by cases h) ⟨hf.trans fa (fun _ _ h => h.elim), box_kept hl fa (fun h => h), hr.fr fa fid2, _, _, _, _, _, rfl, heap_alloc_new _ _, vShown.fr hs fa fid2⟩
    ·obtain rfl := hlim (2 : Nat) rfl
     have h1 := HSX.out
     clear HSX hlim hu
     simp only [List.take_succ_cons, List.take_zero, List.map_cons, List.map_nil] at h1 hK
     obtain ⟨hf, hl, hr, gg, z0, z1, z2, z3, e6, hgg, hss⟩ := h1
     rw [if_pos (by rfl)]
     have hsz := lt_of_block hl
     have hfs := hf.size
     have hb0 := HB0.out
     refine opWp_push (pv := (.slice qa j qc)) (l := (List.range j).map of) (B := lb + 1) (X := fun _ => False) (D := vShown) (.tmp 21) (.tmp 24) 56 56 rfl Try.underlying56 Try.underlying56 Try.infoRV rfl (by decide) he hr gg e6 (news := [z0, z1, z2, z3]) hgg rfl (by obtain ⟨_, _, _, _, e, h⟩ := hss; cases e; exact vshows_one h) (by simp; omega) (by omega) (by omega) (fun k hk => hk.elim) (of j) (vShown.mono hss (fun k _ hk => ⟨by omega, fun h => h, fun h => by have := (HP.out.2.2 _ h).2; omega⟩)) ?_
     intro v' w8 hrow f6 hv
     refine hK _ _ (fun _ h => by cases h) ⟨hf.trans f6 (fun i _ h => .inr h), box_kept hl f6 (fun h => by have := (HP.out.2.2 _ h).1; omega), hrow⟩
    ·obtain rfl := hlim (3 : Nat) rfl
     have h1 := HSX.out
     clear HSX hlim hu
     simp only [List.take_succ_cons, List.take_zero, List.map_cons, List.map_nil] at h1 hK
     obtain ⟨hf, hl, hr⟩ := h1
     obtain ⟨xa2, xn2, xc2, e7⟩ : ∃ xa xn xc, vals2 5 = .slice xa xn xc := by obtain ⟨a, c, e⟩ := hr.slice; exact ⟨a, _, c, e⟩
     have z2 : wx.frozen? ⟨lb, 3, none⟩ = false := by unfold CLoc at hl; simp [World.frozen?, hl]
     obtain ⟨e0, e1, e2, e3⟩ := cell_of_four hl
     have fs : Fr (fun k => k = lb) wx (wx.setCell ⟨lb, 3, none⟩ (vals2 5)) := Fr.set1 (Fr.refl _ _) 3 _
     have HG := hid (show CopyS vShown 58 (.int .i64 N) (.float .f64 f) (.string ⟨sx.toArray⟩) wp lb (.slice qa j qc) ((List.range j).map of) (of j) [vals2 3, vals2 4, vals2 5, undef] (wx.setCell ⟨lb, 3, none⟩ (vals2 5)) from
      ⟨hf.trans fs (fun i _ h => .inl h), setCell_row 3 _ hl, hr.fr fs (fun k hk h => by omega)⟩)
     clear hf hl hr fs
     rw [e7] at HG
     simp only [he, e7] at hK ⊢
     go_simp
     exact hK undef _ (fun _ h => by cases h) HG.out
   case fin =>
    intro vals2 w7 hS hV
    clear hV
    simp only [List.map_cons, List.map_nil] at hS
    obtain ⟨hf, hl, hr⟩ := hS
    have hd : ∀ i, i < w.heap.size -> ¬ CDirt lb (.slice qa j qc) i := fun i hi h => by
     rcases h with h | h
     ·have := HB0.out; omega
     ·have := (HP.out.2.2 _ h).1; have := HB0.out; omega
    have f0 := HI.out.1.trans HP.out.1 fid2
    have fw : Fr (fun _ => False) w w7 := ⟨hf.os.trans f0.os, hf.tape.trans f0.tape, hf.output.trans f0.output, Nat.le_trans f0.size hf.size, fun i hi hs => by
     rw [hf.block i (Nat.lt_of_lt_of_le hi f0.size) (hd i hi), f0.block i hi hs]⟩
    have hrbk := box_kept (box_kept HI.out.2.2.2 HP.out.1 (fun h => h)) hf (fun h => by
     rcases h with h | h
     ·omega
     ·have := (HP.out.2.2 _ h).1; omega)
    have HS2 := hid (show Fr (fun _ => False) w w7 /\ CLoc 58 (.int .i64 N) (.float .f64 f) (.string ⟨sx.toArray⟩) w7 lb (vals2 5) /\ ItRow vShown 58 4 (lb + 1) (fun _ => False) w7 (vals2 5) ((List.range (j + 1)).map of) /\ w7.heap[rb]? = some (.cells #[.int .i64 0, .float .f64 0, .string ⟨#[]⟩, .slice none 0 0] 58 (0, 0)) from by
     rw [List.range_succ, List.map_append]; exact ⟨fw, hl, hr, hrbk⟩)
    clear hf hl hr fw hrbk hd f0
    simp only [frOfU, fillU, zsl]
    go_wp2
    go_roundg (n - (j + 1))
    case measure => have := HLT.out; omega
    case rel => exact ⟨j + 1, vals2 5, HLT.out, rfl, by go_num, HS2⟩
  ·obtain rfl : j = n := by omega
   obtain ⟨d0, d1, d2, d3⟩ := cell_of_four HI.out.2.1
   have p2 := HI.out.2.2.2
   have t0 := cells_row p2 0 _ rfl
   have t1 := cells_row p2 1 _ rfl
   have t2 := cells_row p2 2 _ rfl
   have t3 := cells_row p2 3 _ rfl
   have u0 : wr.frozen? ⟨rb, 0, none⟩ = false := by simp [World.frozen?, p2]
   have u1 : wr.frozen? ⟨rb, 1, none⟩ = false := by simp [World.frozen?, p2]
   have u2 : wr.frozen? ⟨rb, 2, none⟩ = false := by simp [World.frozen?, p2]
   have u3 : wr.frozen? ⟨rb, 3, none⟩ = false := by simp [World.frozen?, p2]
   clear p2
   go_wp2
   refine bodyPost_ret (results_cell_row rfl _ _ rb 58 _ _ _ rfl (store_four HI.out.2.2.2) Try.underlying58 rfl (by kernel_rfl)) rfl ?_
   have fs : Fr (fun k => k = rb) wr ((((wr.setCell ⟨rb, 0, none⟩ (.int .i64 N)).setCell ⟨rb, 1, none⟩ (.float .f64 f)).setCell ⟨rb, 2, none⟩ (.string ⟨sx.toArray⟩)).setCell ⟨rb, 3, none⟩ (.slice qa j qc)) := fr_four _ _ _ _ (Fr.refl _ _) (fun _ => rfl)
   refine ⟨_, rfl, ?_, HI.out.1.trans fs (fun i hi h => by omega)⟩
   have hk0 := ItRow.vkids' HI.out.2.2.1 of (fun i x hi => map_range_of hi)
   exact VShows.mono (fun k _ (h : lb + 1 <= k) => by omega) _ _ (vshows_mk (s := sx) HB.out (hk0.fr fs (fun k (hk : lb + 1 <= k) e => by omega)))
end
end Go.Proofs.Ytohfejpjjjaejaa
