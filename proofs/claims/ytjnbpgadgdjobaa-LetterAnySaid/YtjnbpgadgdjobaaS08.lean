/-
  LetAny, part 8 of what it rests on: LetOnly, LetSmall.
-/
import Derived.Test.YtjnbpgadgdjobaaS07
import Derived.Test.YtjnbpgadgdjobaaS05
set_option linter.unusedVariables false
set_option linter.unusedSimpArgs false
set_option maxHeartbeats 64000000
namespace Go.Proofs.Ytjnbpgadgdjobaa
open Go.RowKit
open Go.Lib (hid)
section
set_option maxRecDepth 100000

/-- The slices lie in blocks from B on. -/
structure Ls.new (s : Ls) (B : Nat) : Prop where
  ea : ∀ k, s.ea.ownBlock = some k → B ≤ k
  em : ∀ k, s.em.ownBlock = some k → B ≤ k
  va : ∀ k, s.va.ownBlock = some k → B ≤ k
  ca : ∀ k, s.ca.ownBlock = some k → B ≤ k
  aa : ∀ k, s.aa.ownBlock = some k → B ≤ k

theorem Ls.new_nil (B : Nat) : Ls.nil.new B := ⟨fun _ h => (by cases h), fun _ h => (by cases h), fun _ h => (by cases h), fun _ h => (by cases h), fun _ h => (by cases h)⟩
theorem Ls.new.le {s : Ls} {B C : Nat} (h : s.new B) (hc : C ≤ B) : s.new C := ⟨fun k hk => Nat.le_trans hc (h.ea k hk), fun k hk => Nat.le_trans hc (h.em k hk), fun k hk => Nat.le_trans hc (h.va k hk), fun k hk => Nat.le_trans hc (h.ca k hk), fun k hk => Nat.le_trans hc (h.aa k hk)⟩

theorem LS.off {w w' : World} {x : Lt} {s : Ls} {b : Nat} (h : LS w x s) (f : Fr (fun k => k = b) w w') (hs : s.new (b + 1)) : LS w' x s :=
  ⟨⟨h.e.1.fr f (fun k hk e => by have := hs.ea k hk; omega), h.e.2.keep f (.inr fun k hk e => by have := hs.em k hk; omega)⟩,
   h.v.keep f (.inr fun k hk e => by have := hs.va k hk; omega), h.c.fr f (fun k hk e => by have := hs.ca k hk; omega), h.a.fr f (fun k hk e => by have := hs.aa k hk; omega)⟩

theorem LS.zero (w : World) (k f t : Int) : LS w { Lt.zero with k := k, f := f, t := t } Ls.nil := ⟨es_zero w, SI.nil w, .inl ⟨rfl, _, _, rfl⟩, .inl ⟨rfl, _, _, rfl⟩⟩

theorem mask_ls1 {x : Lt} {w : World} {si : Ls} (h : hasE x.k x.s 1 = true) (hl : LS w (x.mask 0) si) : LS w (x.mask 1) si := by rw [mask_yes1 x h]; exact ⟨hl.e, hl.v, hl.c, hl.a⟩
theorem mask_ls2 {x : Lt} {w : World} {si : Ls} (h : hasE x.k x.s 2 = true) (hl : LS w (x.mask 1) si) : LS w (x.mask 2) si := by rw [mask_yes2 x h]; exact ⟨hl.e, hl.v, hl.c, hl.a⟩
theorem mask_ls3 {x : Lt} {w : World} {si : Ls} (h : hasE x.k x.s 4 = true) (hl : LS w (x.mask 2) si) : LS w (x.mask 3) si := by rw [mask_yes3 x h]; exact ⟨hl.e, hl.v, hl.c, hl.a⟩
theorem mask_ls4 {x : Lt} {w : World} {si : Ls} (h : hasE x.k x.s 8 = true) (hl : LS w (x.mask 3) si) : LS w (x.mask 4) si := by rw [mask_yes4 x h]; exact ⟨hl.e, hl.v, hl.c, hl.a⟩
theorem mask_ls5 {x : Lt} {w : World} {si : Ls} {v u : Value} (h : hasE x.k x.s 16 = true) (hl : LS w (x.mask 4) si) (h1 : Sees w v x.e.l) (h2 : SI w u x.e.m) : LS w (x.mask 5) { si with ea := v, em := u } := by rw [mask_yes5 x h]; exact ⟨⟨h1, h2⟩, hl.v, hl.c, hl.a⟩
theorem mask_ls6 {x : Lt} {w : World} {si : Ls} {v : Value} (h : hasE x.k x.s 32 = true) (hl : LS w (x.mask 5) si) (h1 : Sees w v x.cl) : LS w (x.mask 6) { si with ca := v } := by rw [mask_yes6 x h]; exact ⟨hl.e, hl.v, h1, hl.a⟩
theorem mask_ls7 {x : Lt} {w : World} {si : Ls} {v u : Value} (h : hasE x.k x.s 64 = true) (hl : LS w (x.mask 6) si) (h1 : SI w v x.vm) (h2 : Sees w u x.al) : LS w (x.mask 7) { si with va := v, aa := u } := by rw [mask_yes7 x h]; exact ⟨hl.e, h1, hl.c, h2⟩

theorem mask_o6 {x : Lt} {W : World} {g : Nat} {s : Ls} (h : hasE x.k x.s 32 = true) (q : W.heap[g]? = some (oLt { x.mask 5 with ct := x.ct, cn := x.cn, cp := x.cp } s)) : W.heap[g]? = some (oLt (x.mask 6) s) := by rw [mask_yes6 x h]; exact q
theorem mask_o7 {x : Lt} {W : World} {g : Nat} {s : Ls} (h : hasE x.k x.s 64 = true) (q : W.heap[g]? = some (oLt { x.mask 6 with it := x.it, iN := x.iN, vn := x.vn, ae := x.ae, ar := x.ar } s)) : W.heap[g]? = some (oLt (x.mask 7) s) := by rw [mask_yes7 x h]; exact q

/-- Of a letter its first i parts are laid. -/
def OnlyI (x : Lt) (s : Ls) (w : World) (g i : Nat) (wx : World) : Prop :=
  wx.heap[g]? = some (oLt x s) ∧ wx.heap[g + 1]? = some (zLt 0 0 0) ∧ Fr (fun _ => False) w wx ∧ ∃ si, wx.heap[g + 2]? = some (oLt (x.mask i) si) ∧ LS wx (x.mask i) si ∧ si.new (g + 3)

theorem OnlyI.fr {x : Lt} {s : Ls} {w wx wy : World} {g i : Nat} (h : OnlyI x s w g i wx) (f : Fr (fun _ => False) wx wy) : OnlyI x s w g i wy := by
  obtain ⟨h1, h2, h3, si, h4, h5, h6⟩ := h
  exact ⟨crow_kept h1 f (fun h => h), crow_kept h2 f (fun h => h), h3.trans f (fun _ _ h => h), si, crow_kept h4 f (fun h => h), h5.fr f, h6⟩

/-- The letter's block is written in. -/
theorem OnlyI.set {x : Lt} {s si : Ls} {w wx wy : World} {g i j : Nat} (h : OnlyI x s w g i wx) (hg : w.heap.size ≤ g) (f : Fr (fun k => k = g + 2) wx wy) (q : wy.heap[g + 2]? = some (oLt (x.mask j) si)) (hl : LS wy (x.mask j) si) (hn : si.new (g + 3)) : OnlyI x s w g j wy := by
  obtain ⟨h1, h2, h3, -⟩ := h
  exact ⟨crow_kept h1 f (by omega), crow_kept h2 f (by omega), h3.trans f (fun i hi e => by omega), si, q, hl, hn⟩

/-- Id, View and Answer, laid in any order. -/
def ansY (x y : Lt) (a b c : Bool) : Lt := { y with it := if a then x.it else y.it, iN := if a then x.iN else y.iN, vn := if b then x.vn else y.vn, ae := if c then x.ae else y.ae, ar := if c then x.ar else y.ar }
def ansS (s si : Ls) (b c : Bool) : Ls := { si with va := if b then s.va else si.va, aa := if c then s.aa else si.aa }
def AnsI (x : Lt) (s : Ls) (w1 : World) (g : Nat) (y : Lt) (si : Ls) (st : Nat → Option Value) (wx : World) : Prop :=
  Fr (fun k => k = g) w1 wx ∧ wx.heap[g]? = some (oLt (ansY x y (st 7).isSome (st 9).isSome (st 11).isSome) (ansS s si (st 9).isSome (st 11).isSome))

theorem AnsI.s7 {x y : Lt} {s si : Ls} {w1 wx : World} {g : Nat} {st : Nat → Option Value} (h : AnsI x s w1 g y si st wx) (u : Value) : AnsI x s w1 g y si (fun j => if j = 7 then some u else st j) ((wx.setCell ⟨g, 21, none⟩ (.int .u16 x.it)).setCell ⟨g, 22, none⟩ (.int .u16 x.iN)) :=
  ⟨sf_i h.1 (fun _ => rfl) _ _, by have := st_i h.2 x.it x.iN; exact this⟩
theorem AnsI.s9 {x y : Lt} {s si : Ls} {w1 wx : World} {g : Nat} {st : Nat → Option Value} (h : AnsI x s w1 g y si st wx) (u : Value) : AnsI x s w1 g y si (fun j => if j = 9 then some u else st j) ((wx.setCell ⟨g, 15, none⟩ (.int .i64 x.vn)).setCell ⟨g, 16, none⟩ s.va) :=
  ⟨sf_v h.1 (fun _ => rfl) _ _, by have := st_v h.2 x.vn s.va; exact this⟩
theorem AnsI.s11 {x y : Lt} {s si : Ls} {w1 wx : World} {g : Nat} {st : Nat → Option Value} (h : AnsI x s w1 g y si st wx) (u : Value) : AnsI x s w1 g y si (fun j => if j = 11 then some u else st j) (((wx.setCell ⟨g, 23, none⟩ (.int .i64 x.ae)).setCell ⟨g, 24, none⟩ (.int .i64 x.ar)).setCell ⟨g, 25, none⟩ s.aa) :=
  ⟨sf_a h.1 (fun _ => rfl) _ _ _, by have := st_a h.2 x.ae x.ar s.aa; exact this⟩
theorem AnsI.fin {x y : Lt} {s si : Ls} {w1 wx : World} {g : Nat} {st : Nat → Option Value} (h : AnsI x s w1 g y si st wx) (a : (st 7).isSome = true) (b : (st 9).isSome = true) (c : (st 11).isSome = true) : Fr (fun k => k = g) w1 wx ∧ wx.heap[g]? = some (oLt { y with it := x.it, iN := x.iN, vn := x.vn, ae := x.ae, ar := x.ar } { si with va := s.va, aa := s.aa }) := by
  refine ⟨h.1, ?_⟩
  have := h.2
  rw [a, b, c] at this
  exact this

theorem lmode_gc : (Region.Mode.any == Region.Mode.gc) = false := rfl

theorem only_any (x : Lt) (s : Ls) (w : World) (hL : LS w x s) (hle : x.e.l.length ≤ 100000) (hme : x.e.m.length ≤ 1000) (hvm : x.vm.length ≤ 1000) (hlc : x.cl.length ≤ 100000) (hla : x.al.length ≤ 100000) :
    Calls Try.prog 16 #[.agg (x.cs s)] w fun e w' => ∃ s', e = .returned (.agg (x.only.cs s')) ∧ LS w' x.only s' ∧ Fr (fun _ => False) w w' ∧ s'.new w.heap.size := by
  have q0 := heap_alloc_new w (oLt x s)
  have f0 : Fr (fun _ => False) w (w.alloc (oLt x s)) := (Fr.refl _ _).alloc _
  have f1 : Fr (fun _ => False) (w.alloc (oLt x s)) ((w.alloc (oLt x s)).alloc (zLt 0 0 0)) := (Fr.refl _ _).alloc _
  have q1 := new_two w (oLt x s) (zLt 0 0 0)
  have q0' := crow_kept q0 f1 (fun h => h)
  have f2 := f0.trans f1 (fun _ _ h => h)
  clear q0 f0 f1
  have hz : ((w.alloc (oLt x s)).alloc (zLt 0 0 0)).heap.size = w.heap.size + 2 := by simp
  have HB := Lib.hid (And.intro hle (And.intro hme (And.intro hvm (And.intro hlc hla))))
  have HL := Lib.hid hL
  obtain ⟨ea1, ec1, he1, -⟩ := HL.out.e.1.shape
  obtain ⟨ea2, ec2, he2, -⟩ := HL.out.e.2.shape
  obtain ⟨ea3, ec3, he3, -⟩ := HL.out.v.shape
  obtain ⟨ea4, ec4, he4, -⟩ := HL.out.c.shape
  obtain ⟨ea5, ec5, he5, -⟩ := HL.out.a.shape
  have HE1 := Lib.hid he1
  have HE2 := Lib.hid he2
  have HE3 := Lib.hid he3
  have HE4 := Lib.hid he4
  have HE5 := Lib.hid he5
  clear he1 he2 he3 he4 he5
  clear hle hme hvm hlc hla hL
  go_enter Try.func16, Try.ntmps16
  go_upto_region 1 with fail
  generalize (w.alloc (oLt x s)).alloc (zLt 0 0 0) = w0 at *
  obtain ⟨c0, c1, c2, -, -, -, -, -, -⟩ := lt_cells q0'
  have hn := heap_alloc_new w0 (zLt 0 0 0)
  have Q1 := Lib.hid hn
  have HZ := Lib.hid hz
  clear hn hz
  go_upto_region 2 with (refine store_lt rfl 51 (.tmp 3) (.tmp 10) rfl w0.heap.size (({ Lt.zero with k := x.k, f := x.f, t := x.t } : Lt).cs Ls.nil) rfl rfl 51 _ Q1.out (by kernel_rfl) rfl (LS.zero w0 x.k x.f x.t).one ?_)
  have hz := HZ.out
  have q2 := setRow_heap _ _ _ (({ Lt.zero with k := x.k, f := x.f, t := x.t } : Lt).cs Ls.nil) _ _ Q1.out
  have f3 : Fr (fun _ => False) w0 ((w0.alloc (zLt 0 0 0)).setRow w0.heap.size (({ Lt.zero with k := x.k, f := x.f, t := x.t } : Lt).cs Ls.nil)) := Fr.letRow ((Fr.refl _ _).alloc _) (fun h => absurd h (by omega)) _
  generalize (w0.alloc (zLt 0 0 0)).setRow w0.heap.size (({ Lt.zero with k := x.k, f := x.f, t := x.t } : Lt).cs Ls.nil) = wi at *
  rw [hz] at q2 ⊢
  rw [mask_zero] at q2
  have HO : Hid (OnlyI x s w w.heap.size 0 wi) := Lib.hid ⟨crow_kept q0' f3 (fun h => h), crow_kept q1 f3 (fun h => h), f2.trans f3 (fun _ _ h => h), Ls.nil, q2, mask_zero x ▸ LS.zero _ _ _ _, Ls.new_nil _⟩
  clear c0 c1 c2 q0' q1 q2 f2 f3 hz HZ Q1
  generalize (Value.agg #[.int .u8 x.k, .int .i64 x.f, .int .i64 x.t, .int .i64 0, .int .i64 0, .int .i64 0, .int .i64 0, .int .i64 0, .bool false, .int .u8 0, .int .u16 0, .int .u16 0, .int .i64 0, nilS, nilS, .int .i64 0, nilS, .int .u16 0, .int .u16 0, .int .i64 0, nilS, .int .u16 0, .int .u16 0, .int .i64 0, .int .i64 0, nilS]) = z10 at *
  obtain ⟨g, hg⟩ : ∃ g, g = w.heap.size := ⟨_, rfl⟩
  have HW : Hid (w.heap.size ≤ g) := Lib.hid (by omega)
  rw [← hg] at HO ⊢
  have HG := Lib.hid hg
  clear hg
  go_wp2_with (refine load_lt rfl 51 (.tmp 1) rfl g (x.cs s) 51 (0, 0) rfl HO.out.1 _ Try.underlying51 rfl (by kernel_rfl) ?_)
  refine (has_any x s 1 wi).mono ?_
  rintro e w1 ⟨rfl, f1⟩
  have HO1 := Lib.hid (HO.out.fr f1)
  clear f1 HO
  obtain ⟨hp, hhp⟩ : ∃ b, b = hasE x.k x.s 1 := ⟨_, rfl⟩
  rw [← hhp]
  have HH := Lib.hid hhp
  clear hhp
  dsimp only
  go_upto_if 12 with fail
  go_cut [15] from 13 to 15 (fun u wx => Hid (OnlyI x s w g 1 wx))
  case first =>
    cases hp with
    | false =>
      go_wp2_with fail
      go_meet
      case rel => exact Lib.hid (by have := HO1.out; unfold OnlyI at *; rwa [mask_no1 x HH.out.symm])
    | true =>
      obtain ⟨h1, h2, h3, si, h4, h5, h6⟩ := HO1.out
      obtain ⟨c0, c1, c2, c3, c4, c5, c6, c7, c8⟩ := lt_cells h1
      obtain ⟨t0, t1, t2, t3, t4, t5, t6, t7, t8⟩ := lt_cells h4
      have hfz := lt_free h4
      have Q4 := Lib.hid (And.intro h4 (And.intro h5 h6))
      clear h1 h2 h3 h4 h5 h6
      go_wp2_with fail
      go_meet
      case rel =>
        have hq := st_p Q4.out.1 x.p
        have hfr := sf_p (S := fun k => k = g + 2) (g := g + 2) (Fr.refl _ w1) (fun _ => rfl) x.p
        have hls := Q4.out.2.1.off hfr Q4.out.2.2
        have hm := mask_yes1 x HH.out.symm
        have hls' := mask_ls1 HH.out.symm hls
        rw [← hm] at hq
        exact Lib.hid (HO1.out.set HW.out hfr hq hls' Q4.out.2.2)
  case rest =>
    have HO := hcut
    clear hcut HO1 HH
    go_wp2_with (refine load_lt rfl 51 (.tmp 1) rfl g (x.cs s) 51 (0, 0) rfl HO.out.1 _ Try.underlying51 rfl (by kernel_rfl) ?_)
    refine (has_any x s 2 wc).mono ?_
    rintro e w1 ⟨rfl, f1⟩
    have HO1 := Lib.hid (HO.out.fr f1)
    clear f1 HO
    obtain ⟨hp, hhp⟩ : ∃ b, b = hasE x.k x.s 2 := ⟨_, rfl⟩
    rw [← hhp]
    have HH := Lib.hid hhp
    clear hhp
    dsimp only
    go_upto_if 17 with fail
    go_cut [20] from 18 to 20 (fun u wx => Hid (OnlyI x s w g 2 wx))
    case first =>
      cases hp with
      | false =>
        go_wp2_with fail
        go_meet
        case rel => exact Lib.hid (by have := HO1.out; unfold OnlyI at *; rwa [mask_no2 x HH.out.symm])
      | true =>
        obtain ⟨h1, h2, h3, si, h4, h5, h6⟩ := HO1.out
        obtain ⟨c0, c1, c2, c3, c4, c5, c6, c7, c8⟩ := lt_cells h1
        obtain ⟨t0, t1, t2, t3, t4, t5, t6, t7, t8⟩ := lt_cells h4
        have hfz := lt_free h4
        have Q4 := Lib.hid (And.intro h4 (And.intro h5 h6))
        clear h1 h2 h3 h4 h5 h6
        go_wp2_with fail
        go_meet
        case rel =>
          have hq := st_b Q4.out.1 x.b1 x.b2
          have hfr := sf_b (S := fun k => k = g + 2) (g := g + 2) (Fr.refl _ w1) (fun _ => rfl) x.b1 x.b2
          have hls := Q4.out.2.1.off hfr Q4.out.2.2
          have hm := mask_yes2 x HH.out.symm
          have hls' := mask_ls2 HH.out.symm hls
          rw [← hm] at hq
          exact Lib.hid (HO1.out.set HW.out hfr hq hls' Q4.out.2.2)
    case rest =>
      have HO := hcut
      clear hcut HO1 HH
      go_wp2_with (refine load_lt rfl 51 (.tmp 1) rfl g (x.cs s) 51 (0, 0) rfl HO.out.1 _ Try.underlying51 rfl (by kernel_rfl) ?_)
      refine (has_any x s 4 wc).mono ?_
      rintro e w1 ⟨rfl, f1⟩
      have HO1 := Lib.hid (HO.out.fr f1)
      clear f1 HO
      obtain ⟨hp, hhp⟩ : ∃ b, b = hasE x.k x.s 4 := ⟨_, rfl⟩
      rw [← hhp]
      have HH := Lib.hid hhp
      clear hhp
      dsimp only
      go_upto_if 22 with fail
      go_cut [25] from 23 to 25 (fun u wx => Hid (OnlyI x s w g 3 wx))
      case first =>
        cases hp with
        | false =>
          go_wp2_with fail
          go_meet
          case rel => exact Lib.hid (by have := HO1.out; unfold OnlyI at *; rwa [mask_no3 x HH.out.symm])
        | true =>
          obtain ⟨h1, h2, h3, si, h4, h5, h6⟩ := HO1.out
          obtain ⟨c0, c1, c2, c3, c4, c5, c6, c7, c8⟩ := lt_cells h1
          obtain ⟨t0, t1, t2, t3, t4, t5, t6, t7, t8⟩ := lt_cells h4
          have hfz := lt_free h4
          have Q4 := Lib.hid (And.intro h4 (And.intro h5 h6))
          clear h1 h2 h3 h4 h5 h6
          go_wp2_with fail
          go_meet
          case rel =>
            have hq := st_s Q4.out.1 x.s
            have hfr := sf_s (S := fun k => k = g + 2) (g := g + 2) (Fr.refl _ w1) (fun _ => rfl) x.s
            have hls := Q4.out.2.1.off hfr Q4.out.2.2
            have hm := mask_yes3 x HH.out.symm
            have hls' := mask_ls3 HH.out.symm hls
            rw [← hm] at hq
            exact Lib.hid (HO1.out.set HW.out hfr hq hls' Q4.out.2.2)
      case rest =>
        have HO := hcut
        clear hcut HO1 HH
        go_wp2_with (refine load_lt rfl 51 (.tmp 1) rfl g (x.cs s) 51 (0, 0) rfl HO.out.1 _ Try.underlying51 rfl (by kernel_rfl) ?_)
        refine (has_any x s 8 wc).mono ?_
        rintro e w1 ⟨rfl, f1⟩
        have HO1 := Lib.hid (HO.out.fr f1)
        clear f1 HO
        obtain ⟨hp, hhp⟩ : ∃ b, b = hasE x.k x.s 8 := ⟨_, rfl⟩
        rw [← hhp]
        have HH := Lib.hid hhp
        clear hhp
        dsimp only
        go_upto_if 27 with fail
        go_cut [30] from 28 to 30 (fun u wx => Hid (OnlyI x s w g 4 wx))
        case first =>
          cases hp with
          | false =>
            go_wp2_with fail
            go_meet
            case rel => exact Lib.hid (by have := HO1.out; unfold OnlyI at *; rwa [mask_no4 x HH.out.symm])
          | true =>
            obtain ⟨h1, h2, h3, si, h4, h5, h6⟩ := HO1.out
            obtain ⟨c0, c1, c2, c3, c4, c5, c6, c7, c8⟩ := lt_cells h1
            obtain ⟨t0, t1, t2, t3, t4, t5, t6, t7, t8⟩ := lt_cells h4
            have hfz := lt_free h4
            have Q4 := Lib.hid (And.intro h4 (And.intro h5 h6))
            clear h1 h2 h3 h4 h5 h6
            go_wp2_with fail
            go_meet
            case rel =>
              have hq := st_w Q4.out.1 x.w1 x.w2
              have hfr := sf_w (S := fun k => k = g + 2) (g := g + 2) (Fr.refl _ w1) (fun _ => rfl) x.w1 x.w2
              have hls := Q4.out.2.1.off hfr Q4.out.2.2
              have hm := mask_yes4 x HH.out.symm
              have hls' := mask_ls4 HH.out.symm hls
              rw [← hm] at hq
              exact Lib.hid (HO1.out.set HW.out hfr hq hls' Q4.out.2.2)
        case rest =>
          have HO := hcut
          clear hcut HO1 HH
          go_wp2_with (refine load_lt rfl 51 (.tmp 1) rfl g (x.cs s) 51 (0, 0) rfl HO.out.1 _ Try.underlying51 rfl (by kernel_rfl) ?_)
          refine (has_any x s 16 wc).mono ?_
          rintro e w1 ⟨rfl, f1⟩
          have HO1 := Lib.hid (HO.out.fr f1)
          clear f1 HO
          obtain ⟨hp, hhp⟩ : ∃ b, b = hasE x.k x.s 16 := ⟨_, rfl⟩
          rw [← hhp]
          have HH := Lib.hid hhp
          clear hhp
          dsimp only
          go_upto_if 32 with fail
          go_cut [49] from 33 to 49 (fun u wx => Hid (OnlyI x s w g 5 wx))
          case first =>
            cases hp with
            | false =>
              go_wp2_with fail
              go_meet
              case rel => exact Lib.hid (by have := HO1.out; unfold OnlyI at *; rwa [mask_no5 x HH.out.symm])
            | true =>
              obtain ⟨h1, h2, h3, si, h4, h5, h6⟩ := HO1.out
              obtain ⟨c9, c10, c11, c12, c13, c14⟩ := lt_cells2 h1
              obtain ⟨t9, t10, t11, t12, t13, t14⟩ := lt_cells2 h4
              rw [HE1.out] at c13
              rw [HE2.out] at c14
              have hfz := lt_free h4
              have Q1 := Lib.hid h1
              have Q4 := Lib.hid (And.intro h4 (And.intro h5 h6))
              have F1 := Lib.hid h3
              clear h1 h2 h3 h4 h5 h6
              go_upto_region 12 with fail
              have hq := st_e Q4.out.1 x.e (.slice ea1 x.e.l.length ec1) (.slice ea2 x.e.m.length ec2)
              have hfr := sf_e (S := fun k => k = g + 2) (g := g + 2) (Fr.refl _ w1) (fun _ => rfl) x.e (.slice ea1 x.e.l.length ec1) (.slice ea2 x.e.m.length ec2)
              generalize ((((((w1.setCell ⟨g + 2, 9, none⟩ (.int .u8 x.e.k)).setCell ⟨g + 2, 10, none⟩ (.int .u16 x.e.t)).setCell ⟨g + 2, 11, none⟩ (.int .u16 x.e.n)).setCell ⟨g + 2, 12, none⟩ (.int .i64 x.e.p)).setCell ⟨g + 2, 13, none⟩ (.slice ea1 x.e.l.length ec1)).setCell ⟨g + 2, 14, none⟩ (.slice ea2 x.e.m.length ec2)) = w2 at *
              have hc1 := crow_kept Q1.out hfr (by omega)
              have HC2 := Lib.hid (And.intro hc1 hq)
              have FR2 := Lib.hid hfr
              obtain ⟨d9, d10, d11, d12, d13, d14⟩ := lt_cells2 hc1
              clear hc1 hq hfr hfz c9 c10 c11 c12 c13 c14 d9 d10 d11 d12 d14 t9 t10 t11 t12 t13 t14
              have FW2 : Hid (Fr (fun _ => False) w w2) := Lib.hid (F1.out.trans FR2.out (fun i hi e => by have := HG.out; omega))
              go_wp2_with fail
              refine (clone_any s.ea x.e.l w2 (HL.out.e.1.fr FW2.out (fun _ _ h => h)) (by have := HB.out.1; omega)).mono ?_
              rintro e w3 ⟨v3, rfl, ho3, f3, hv3⟩
              obtain ⟨a3, c3, e3⟩ := slice_of_own ho3
              subst e3
              have hq3 := crow_kept HC2.out.2 f3 (fun h => h)
              have hfz := lt_free hq3
              obtain ⟨-, -, -, -, t13, -⟩ := lt_cells2 hq3
              have HC3 := Lib.hid (And.intro (crow_kept HC2.out.1 f3 (fun h => h)) hq3)
              have HV3 := Lib.hid hv3
              have S3 := Lib.hid ho3.sees
              have FR3 : Hid (Fr (fun k => k = g + 2) w1 w3) := Lib.hid (FR2.out.trans f3 (fun _ _ h => h.elim))
              have HSZ : Hid (g + 2 < w2.heap.size) := Lib.hid (vt_lt HC2.out.2)
              clear f3 hv3 ho3 hq3 HC2 FR2 FW2 d13
              dsimp only
              go_upto_region 13 with fail
              have hq := st_ea HC3.out.2 (Value.slice a3 x.e.l.length c3)
              have hfr := sf_ea (S := fun k => k = g + 2) (g := g + 2) (Fr.refl _ w3) (fun _ => rfl) (Value.slice a3 x.e.l.length c3)
              have S4 := Lib.hid (S3.out.fr hfr (fun k hk e => by have := HV3.out k hk; have := HSZ.out; omega))
              have hfr4 := FR3.out.trans hfr (fun _ _ h => h)
              have hc4 := crow_kept HC3.out.1 hfr (by omega)
              generalize w3.setCell ⟨g + 2, 13, none⟩ (Value.slice a3 x.e.l.length c3) = w4 at *
              have HC4 := Lib.hid (And.intro hc4 hq)
              have FR4 := Lib.hid hfr4
              obtain ⟨d9, d10, d11, d12, d13, d14⟩ := lt_cells2 hc4
              have FW4 : Hid (Fr (fun _ => False) w w4) := Lib.hid (F1.out.trans FR4.out (fun i hi e => by have := HG.out; omega))
              clear hc4 hq hfr hfr4 hfz d9 d10 d11 d12 d13 HC3 S3 FR3 t13
              have hem := HL.out.e.2.fr FW4.out
              obtain ⟨am, cm, hvm, hcm⟩ := hem.shape
              rw [hvm] at d14
              have HCM := Lib.hid hcm
              clear hem hvm hcm
              go_wp2_with fail
              refine (lclone_any x.e.m am cm w4 HCM.out HB.out.2.1).mono ?_
              rintro e w5 ⟨v5, rfl, ho5, f5⟩
              obtain ⟨a5, c5, e5⟩ := slice_of_own ho5
              subst e5
              have hq5 := crow_kept HC4.out.2 f5 (fun h => h)
              have hfz := lt_free hq5
              obtain ⟨-, -, -, -, -, t14⟩ := lt_cells2 hq5
              have HV5 : Hid (∀ k, (Value.slice a5 x.e.m.length c5).ownBlock = some k → w4.heap.size ≤ k) := Lib.hid (fun k hk => (World.ownsRow.lt ho5 k hk).1)
              have S5 := Lib.hid (And.intro (S4.out.fr f5 (fun _ _ h => h)) ho5.si)
              have FR5 : Hid (Fr (fun k => k = g + 2) w1 w5) := Lib.hid (FR4.out.trans f5 (fun _ _ h => h.elim))
              have HSZ4 : Hid (g + 2 < w4.heap.size) := Lib.hid (vt_lt HC4.out.2)
              have HQ5 := Lib.hid hq5
              clear f5 ho5 hq5 HC4 FR4 FW4 d14 S4
              dsimp only
              go_wp2_with fail
              go_meet
              case rel =>
                have hq := st_em HQ5.out (Value.slice a5 x.e.m.length c5)
                have hfr := sf_em (S := fun k => k = g + 2) (g := g + 2) (Fr.refl _ w5) (fun _ => rfl) (Value.slice a5 x.e.m.length c5)
                have hfr6 := FR5.out.trans hfr (fun _ _ h => h)
                have hs6 := S5.out.1.fr hfr (fun k hk e => by have := HV3.out k hk; have := HSZ.out; omega)
                have hm6 := S5.out.2.keep hfr (.inr fun k hk e => by have := HV5.out k hk; have := HSZ4.out; omega)
                have hls := Q4.out.2.1.off hfr6 Q4.out.2.2
                have hm := mask_yes5 x HH.out.symm
                have hls' := mask_ls5 HH.out.symm hls hs6 hm6
                rw [← hm] at hq
                exact Lib.hid (HO1.out.set HW.out hfr6 hq hls' ⟨fun k hk => by have := HV3.out k hk; have := HSZ.out; omega, fun k hk => by have := HV5.out k hk; have := HSZ4.out; omega, Q4.out.2.2.va, Q4.out.2.2.ca, Q4.out.2.2.aa⟩)
          case rest =>
            have HO := hcut
            clear hcut HO1 HH
            go_wp2_with (refine load_lt rfl 51 (.tmp 1) rfl g (x.cs s) 51 (0, 0) rfl HO.out.1 _ Try.underlying51 rfl (by kernel_rfl) ?_)
            refine (has_any x s 32 wc).mono ?_
            rintro e w1 ⟨rfl, f1⟩
            have HO1 := Lib.hid (HO.out.fr f1)
            clear f1 HO
            obtain ⟨hp, hhp⟩ : ∃ b, b = hasE x.k x.s 32 := ⟨_, rfl⟩
            rw [← hhp]
            have HH := Lib.hid hhp
            clear hhp
            dsimp only
            go_upto_if 51 with fail
            go_cut [60] from 52 to 60 (fun u wx => Hid (OnlyI x s w g 6 wx))
            case first =>
              cases hp with
              | false =>
                go_wp2_with fail
                go_meet
                case rel => exact Lib.hid (by have := HO1.out; unfold OnlyI at *; rwa [mask_no6 x HH.out.symm])
              | true =>
                obtain ⟨h1, h2, h3, si, h4, h5, h6⟩ := HO1.out
                obtain ⟨-, -, c17, c18, c19, c20, -, -, -, -, -⟩ := lt_cells3 h1
                obtain ⟨-, -, t17, t18, t19, t20, -, -, -, -, -⟩ := lt_cells3 h4
                rw [HE4.out] at c20
                have hfz := lt_free h4
                have Q1 := Lib.hid h1
                have Q4 := Lib.hid (And.intro h4 (And.intro h5 h6))
                have F1 := Lib.hid h3
                clear h1 h2 h3 h4 h5 h6
                go_upto_region 16 with fail
                have hq := st_c Q4.out.1 x.ct x.cn x.cp (.slice ea4 x.cl.length ec4)
                have hfr := sf_c (S := fun k => k = g + 2) (g := g + 2) (Fr.refl _ w1) (fun _ => rfl) x.ct x.cn x.cp (.slice ea4 x.cl.length ec4)
                generalize ((((w1.setCell ⟨g + 2, 17, none⟩ (.int .u16 x.ct)).setCell ⟨g + 2, 18, none⟩ (.int .u16 x.cn)).setCell ⟨g + 2, 19, none⟩ (.int .i64 x.cp)).setCell ⟨g + 2, 20, none⟩ (.slice ea4 x.cl.length ec4)) = w2 at *
                have hc1 := crow_kept Q1.out hfr (by omega)
                have HC2 := Lib.hid (And.intro hc1 hq)
                have FR2 := Lib.hid hfr
                obtain ⟨-, -, -, -, -, d20, -, -, -, -, -⟩ := lt_cells3 hc1
                clear hc1 hq hfr hfz c17 c18 c19 c20 t17 t18 t19 t20
                have FW2 : Hid (Fr (fun _ => False) w w2) := Lib.hid (F1.out.trans FR2.out (fun i hi e => by have := HG.out; omega))
                go_wp2_with fail
                refine (clone_any s.ca x.cl w2 (HL.out.c.fr FW2.out (fun _ _ h => h)) (by have := HB.out.2.2.2.1; omega)).mono ?_
                rintro e w3 ⟨v3, rfl, ho3, f3, hv3⟩
                obtain ⟨a3, c3, e3⟩ := slice_of_own ho3
                subst e3
                have hq3 := crow_kept HC2.out.2 f3 (fun h => h)
                have hfz := lt_free hq3
                obtain ⟨-, -, -, -, -, t20, -, -, -, -, -⟩ := lt_cells3 hq3
                have HQ3 := Lib.hid hq3
                have HV3 := Lib.hid hv3
                have S3 := Lib.hid ho3.sees
                have FR3 : Hid (Fr (fun k => k = g + 2) w1 w3) := Lib.hid (FR2.out.trans f3 (fun _ _ h => h.elim))
                have HSZ : Hid (g + 2 < w2.heap.size) := Lib.hid (vt_lt HC2.out.2)
                clear f3 hv3 ho3 hq3 HC2 FR2 FW2 d20
                dsimp only
                go_wp2_with fail
                go_meet
                case rel =>
                  have hq := st_ca HQ3.out (Value.slice a3 x.cl.length c3)
                  have hfr := sf_ca (S := fun k => k = g + 2) (g := g + 2) (Fr.refl _ w3) (fun _ => rfl) (Value.slice a3 x.cl.length c3)
                  have hfr6 := FR3.out.trans hfr (fun _ _ h => h)
                  have hs6 := S3.out.fr hfr (fun k hk e => by have := HV3.out k hk; have := HSZ.out; omega)
                  have hls := Q4.out.2.1.off hfr6 Q4.out.2.2
                  have hm := mask_yes6 x HH.out.symm
                  have hls' := mask_ls6 HH.out.symm hls hs6
                  have hq' := mask_o6 HH.out.symm hq
                  exact Lib.hid (HO1.out.set HW.out hfr6 hq' hls' ⟨Q4.out.2.2.ea, Q4.out.2.2.em, Q4.out.2.2.va, fun k hk => by have := HV3.out k hk; have := HSZ.out; omega, Q4.out.2.2.aa⟩)
            case rest =>
              have HO := hcut
              clear hcut HO1 HH
              go_wp2_with (refine load_lt rfl 51 (.tmp 1) rfl g (x.cs s) 51 (0, 0) rfl HO.out.1 _ Try.underlying51 rfl (by kernel_rfl) ?_)
              refine (has_any x s 64 wc).mono ?_
              rintro e w1 ⟨rfl, f1⟩
              have HO1 := Lib.hid (HO.out.fr f1)
              clear f1 HO
              obtain ⟨hp, hhp⟩ : ∃ b, b = hasE x.k x.s 64 := ⟨_, rfl⟩
              rw [← hhp]
              have HH := Lib.hid hhp
              clear hhp
              dsimp only
              go_upto_if 62 with fail
              go_cut [83] from 63 to 83 (fun u wx => Hid (OnlyI x s w g 7 wx))
              case first =>
                cases hp with
                | false =>
                  go_wp2_with fail
                  go_meet
                  case rel => exact Lib.hid (by have := HO1.out; unfold OnlyI at *; rwa [mask_no7 x HH.out.symm])
                | true =>
                  obtain ⟨h1, h2, h3, si, h4, h5, h6⟩ := HO1.out
                  have Q1 := Lib.hid h1
                  have Q4 := Lib.hid (And.intro h4 (And.intro h5 h6))
                  have F1 := Lib.hid h3
                  clear h1 h2 h3 h4 h5 h6
                  go_upto_region 18 with fail
                  refine wp_region_links (by kernel_rfl) [some 63, some 64, some 65, some 66, some 67, some 68, some 69, none, some 70, none, some 71, none] rfl (by decide) (by intro d hd; simp at hd ⊢; omega)
                    (fun st wx => AnsI x s w1 (g + 2) (x.mask 6) si st wx)
                    [.free (.pointer (some ⟨g, 21, none⟩)), .free (.agg #[.int .u16 x.it, .int .u16 x.iN]), .free (.pointer (some ⟨g, 15, none⟩)), .free (.agg #[.int .i64 x.vn, .slice ea3 x.vm.length ec3]), .free (.pointer (some ⟨g, 23, none⟩)), .free (.agg #[.int .i64 x.ae, .int .i64 x.ar, .slice ea5 x.al.length ec5]), .free (.pointer (some ⟨g + 2, 21, none⟩)), .link none, .free (.pointer (some ⟨g + 2, 15, none⟩)), .link none, .free (.pointer (some ⟨g + 2, 23, none⟩)), .link none]
                    (by kernel_rfl) ?h0 ?step ?fin
                  case h0 => exact ⟨(Fr.refl _ _).drew, Q4.out.1⟩
                  case step =>
                    intro vals
                    simp only [frOfU, fillU, List.setIfInBounds_toArray, List.set_cons_succ, List.set_cons_zero]
                    repeat' (first | exact AllOps.nil | refine AllOps.cons ?_ ?_)
                    all_goals
                      intro st wx hS he hu hn Kc hK
                      simp only [Act.put, List.setIfInBounds_toArray, List.set_cons_succ, List.set_cons_zero, List.getD_cons_zero, List.getD_cons_succ] at hK
                      simp only [List.mem_cons, List.not_mem_nil, or_false, forall_eq_or_imp, forall_eq, Region.binds, forall_const, lmode_gc, Bool.false_eq_true, false_imp_iff, List.getD_cons_zero, List.getD_cons_succ, OpSort.val, OpSort.isLink, Option.some.injEq, forall_eq', reduceCtorEq, implies_true, true_and, and_true] at he
                      obtain ⟨c15, c16, -, -, -, -, c21, c22, c23, c24, c25⟩ := lt_cells3 (crow_kept Q1.out hS.1 (by omega))
                      rw [HE3.out] at c16
                      rw [HE5.out] at c25
                      obtain ⟨t15, t16, -, -, -, -, t21, t22, t23, t24, t25⟩ := lt_cells3 hS.2
                      have hfz := lt_free hS.2
                      have HSX := Lib.hid hS
                      clear hS
                    all_goals first | (clear hu hn; (try simp only [he] at hK ⊢); go_simp; exact hK) | skip
                    · clear hu hn
                      simp only [he] at hK ⊢
                      go_simp
                      exact hK undef _ (fun _ h => by cases h) (HSX.out.s7 undef)
                    · clear hu hn
                      simp only [he] at hK ⊢
                      go_simp
                      have h9 := HSX.out.s9 undef
                      rw [HE3.out] at h9
                      exact hK undef _ (fun _ h => by cases h) h9
                    · clear hu hn
                      simp only [he] at hK ⊢
                      go_simp
                      have h11 := HSX.out.s11 undef
                      rw [HE5.out] at h11
                      exact hK undef _ (fun _ h => by cases h) h11
                  case fin =>
                    intro vals w2 hS hV
                    obtain ⟨hfr, hq⟩ := hS.fin rfl rfl rfl
                    clear hS hV
                    simp only [frOfU, fillU, List.setIfInBounds_toArray, List.set_cons_succ, List.set_cons_zero]
                    have hc1 := crow_kept Q1.out hfr (by omega)
                    have HC2 := Lib.hid (And.intro hc1 hq)
                    have FR2 := Lib.hid hfr
                    obtain ⟨-, d16, -, -, -, -, -, -, -, -, -⟩ := lt_cells3 hc1
                    clear hc1 hq hfr
                    have FW2 : Hid (Fr (fun _ => False) w w2) := Lib.hid (F1.out.trans FR2.out (fun i hi e => by have := HG.out; omega))
                    have hem := HL.out.v.fr FW2.out
                    obtain ⟨am, cm, hvm, hcm⟩ := hem.shape
                    rw [hvm] at d16
                    have HCM := Lib.hid hcm
                    clear hem hvm hcm
                    go_wp2_with fail
                    refine (lclone_any x.vm am cm w2 HCM.out HB.out.2.2.1).mono ?_
                    rintro e w3 ⟨v3, rfl, ho3, f3⟩
                    obtain ⟨a3, c3, e3⟩ := slice_of_own ho3
                    subst e3
                    have hq3 := crow_kept HC2.out.2 f3 (fun h => h)
                    have hfz := lt_free hq3
                    obtain ⟨-, t16, -, -, -, -, -, -, -, -, -⟩ := lt_cells3 hq3
                    have HC3 := Lib.hid (And.intro (crow_kept HC2.out.1 f3 (fun h => h)) hq3)
                    have HV3 : Hid (∀ k, (Value.slice a3 x.vm.length c3).ownBlock = some k → w2.heap.size ≤ k) := Lib.hid (fun k hk => (World.ownsRow.lt ho3 k hk).1)
                    have S3 := Lib.hid ho3.si
                    have FR3 : Hid (Fr (fun k => k = g + 2) w1 w3) := Lib.hid (FR2.out.trans f3 (fun _ _ h => h.elim))
                    have HSZ : Hid (g + 2 < w2.heap.size) := Lib.hid (vt_lt HC2.out.2)
                    clear f3 ho3 hq3 HC2 FR2 FW2 d16
                    dsimp only
                    go_upto_region 20 with fail
                    have hq := st_va HC3.out.2 (Value.slice a3 x.vm.length c3)
                    have hfr := sf_va (S := fun k => k = g + 2) (g := g + 2) (Fr.refl _ w3) (fun _ => rfl) (Value.slice a3 x.vm.length c3)
                    have S4 := Lib.hid (S3.out.keep hfr (.inr fun k hk e => by have := HV3.out k hk; have := HSZ.out; omega))
                    have hfr4 := FR3.out.trans hfr (fun _ _ h => h)
                    have hc4 := crow_kept HC3.out.1 hfr (by omega)
                    generalize w3.setCell ⟨g + 2, 16, none⟩ (Value.slice a3 x.vm.length c3) = w4 at *
                    have HC4 := Lib.hid (And.intro hc4 hq)
                    have FR4 := Lib.hid hfr4
                    obtain ⟨-, -, -, -, -, -, -, -, -, -, d25⟩ := lt_cells3 hc4
                    have FW4 : Hid (Fr (fun _ => False) w w4) := Lib.hid (F1.out.trans FR4.out (fun i hi e => by have := HG.out; omega))
                    clear hc4 hq hfr hfr4 hfz HC3 S3 FR3 t16
                    go_wp2_with fail
                    refine (clone_any s.aa x.al w4 (HL.out.a.fr FW4.out (fun _ _ h => h)) (by have := HB.out.2.2.2.2; omega)).mono ?_
                    rintro e w5 ⟨v5, rfl, ho5, f5, hv5⟩
                    obtain ⟨a5, c5, e5⟩ := slice_of_own ho5
                    subst e5
                    have hq5 := crow_kept HC4.out.2 f5 (fun h => h)
                    have hfz := lt_free hq5
                    obtain ⟨-, -, -, -, -, -, -, -, -, -, t25⟩ := lt_cells3 hq5
                    have HV5 := Lib.hid hv5
                    have S5 := Lib.hid (And.intro (S4.out.fr f5) ho5.sees)
                    have FR5 : Hid (Fr (fun k => k = g + 2) w1 w5) := Lib.hid (FR4.out.trans f5 (fun _ _ h => h.elim))
                    have HSZ4 : Hid (g + 2 < w4.heap.size) := Lib.hid (vt_lt HC4.out.2)
                    have HQ5 := Lib.hid hq5
                    clear f5 ho5 hv5 hq5 HC4 FR4 FW4 d25 S4
                    dsimp only
                    go_wp2_with fail
                    go_meet
                    case rel =>
                      have hq := st_aa HQ5.out (Value.slice a5 x.al.length c5)
                      have hfr := sf_aa (S := fun k => k = g + 2) (g := g + 2) (Fr.refl _ w5) (fun _ => rfl) (Value.slice a5 x.al.length c5)
                      have hfr6 := FR5.out.trans hfr (fun _ _ h => h)
                      have hs6 := S5.out.1.keep hfr (.inr fun k hk e => by have := HV3.out k hk; have := HSZ.out; omega)
                      have hm6 := S5.out.2.fr hfr (fun k hk e => by have := HV5.out k hk; have := HSZ4.out; omega)
                      have hls := Q4.out.2.1.off hfr6 Q4.out.2.2
                      have hm := mask_yes7 x HH.out.symm
                      have hls' := mask_ls7 HH.out.symm hls hs6 hm6
                      have hq' := mask_o7 HH.out.symm hq
                      exact Lib.hid (HO1.out.set HW.out hfr6 hq' hls' ⟨Q4.out.2.2.ea, Q4.out.2.2.em, fun k hk => by have := HV3.out k hk; have := HSZ.out; omega, Q4.out.2.2.ca, fun k hk => by have := HV5.out k hk; have := HSZ4.out; omega⟩)
              case rest =>
                have HO := hcut
                clear hcut HO1 HH
                obtain ⟨h1, h2, h3, si, h4, h5, h6⟩ := HO.out
                have H2 := Lib.hid h2
                have HF := Lib.hid (And.intro h3 (And.intro h4 (And.intro h5 h6)))
                clear h1 h2 h3 h4 h5 h6
                go_wp2_with (first
                  | refine load_lt rfl 51 (.tmp 3) rfl (g + 2) ((x.mask 7).cs si) 51 (0, 0) rfl HF.out.2.1 _ Try.underlying51 rfl (by kernel_rfl) ?_
                  | refine store_lt rfl 51 (.tmp 2) (.tmp 84) rfl (g + 1) ((x.mask 7).cs si) rfl rfl 51 _ H2.out (by kernel_rfl) rfl HF.out.2.2.1.one ?_)
                have hq := setRow_heap _ _ _ ((x.mask 7).cs si) _ _ H2.out
                have hfr := Fr.letRow (S := fun k => k = g + 1) (Fr.refl _ wc) (g := g + 1) (fun _ => rfl) ((x.mask 7).cs si)
                generalize wc.setRow (g + 1) ((x.mask 7).cs si) = wz at *
                refine bodyPost_ret (results_cell_row rfl _ _ (g + 1) 51 _ _ _ rfl hq Try.underlying51 rfl (by kernel_rfl)) rfl ?_
                exact ⟨si, rfl, HF.out.2.2.1.off hfr (HF.out.2.2.2.le (by omega)), HF.out.1.trans hfr (fun i hi e => by have := HW.out; omega), HF.out.2.2.2.le (by have := HW.out; omega)⟩
end
section
set_option maxRecDepth 100000

def nodeN (n : Int) : Bool := decide (0 ≤ n) && decide (n < 16)
def longN (n : Int) : Bool := decide (0 ≤ n) && decide (n ≤ 4294967295)
def rightN (r n : Int) : Bool := longN r && nodeN n

theorem lnode_any (n : Int) (w : World) : Calls Try.prog 27 #[.int .i64 n] w fun e w' => e = .returned (.bool (nodeN n)) ∧ w = w' := by
  by_cases h : 0 ≤ n
  · have h1 : decide (n ≥ 0) = true := by simp [h]
    have hE : Hid (nodeN n = decide (n < 16)) := Lib.hid (by unfold nodeN; simp [h])
    clear h
    go_enter Try.func27, Try.ntmps27
    go_wp2_with fail
    go_ret
    rw [hE.out]
    exact ⟨rfl, rfl⟩
  · have h1 : decide (n ≥ 0) = false := by simp; omega
    have hE : Hid (nodeN n = false) := Lib.hid (by unfold nodeN; simp [h])
    clear h
    go_enter Try.func27, Try.ntmps27
    go_wp2_with fail
    go_ret
    rw [hE.out]
    exact ⟨rfl, rfl⟩

theorem llong_any (n : Int) (w : World) : Calls Try.prog 28 #[.int .i64 n] w fun e w' => e = .returned (.bool (longN n)) ∧ w = w' := by
  by_cases h : 0 ≤ n
  · have h1 : decide (n ≥ 0) = true := by simp [h]
    have hE : Hid (longN n = decide (n ≤ 4294967295)) := Lib.hid (by unfold longN; simp [h])
    clear h
    go_enter Try.func28, Try.ntmps28
    go_wp2_with fail
    go_ret
    rw [hE.out]
    exact ⟨rfl, rfl⟩
  · have h1 : decide (n ≥ 0) = false := by simp; omega
    have hE : Hid (longN n = false) := Lib.hid (by unfold longN; simp [h])
    clear h
    go_enter Try.func28, Try.ntmps28
    go_wp2_with fail
    go_ret
    rw [hE.out]
    exact ⟨rfl, rfl⟩

theorem ba_row {w : World} {b : Nat} {x0 x1 : Value} {t : TypeId} (h : w.heap[b]? = some (.cells #[x0, x1] t (0, 0))) : w.cell? ⟨b, 0, none⟩ = some x0 ∧ w.cell? ⟨b, 1, none⟩ = some x1 := ⟨crow h 0 _ rfl, crow h 1 _ rfl⟩

theorem lright_any (r n : Int) (w : World) : Calls Try.prog 29 #[ball r n] w fun e w' => e = .returned (.bool (rightN r n)) ∧ Fr (fun _ => False) w w' := by
  have q0 := heap_alloc_new w (oBa r n)
  have F := Lib.hid (show Fr (fun _ => False) w (w.alloc (oBa r n)) from (Fr.refl _ _).alloc _)
  obtain ⟨c0, c1⟩ := ba_row q0
  clear q0
  go_enter Try.func29, Try.ntmps29
  go_upto_region 1 with fail
  generalize w.alloc (oBa r n) = w0 at *
  go_wp2_with fail
  refine (llong_any r w0).mono ?_
  rintro e w1 ⟨rfl, rfl⟩
  have hE : Hid (rightN r n = (longN r && nodeN n)) := Lib.hid rfl
  obtain ⟨b, hb⟩ : ∃ b, b = longN r := ⟨_, rfl⟩
  rw [← hb] at hE ⊢
  clear hb
  dsimp only
  cases b with
  | false =>
    go_wp2_with fail
    go_ret
    rw [hE.out]
    exact ⟨rfl, F.out⟩
  | true =>
    go_wp2_with fail
    refine (lnode_any n w0).mono ?_
    rintro e w1 ⟨rfl, rfl⟩
    dsimp only
    go_wp2_with fail
    go_ret
    rw [hE.out]
    exact ⟨rfl, F.out⟩

def Lt.chkV (x : Lt) : Int := if hasE x.k x.s 64 = true then (if longN x.vn = true then chkM x.vm else 2) else 0

theorem chkV_of {x : Lt} {b c : Bool} (hb : b = hasE x.k x.s 64) (hc : c = longN x.vn) : x.chkV = if b = true then (if c = true then chkM x.vm else 2) else 0 := by rw [hb, hc]; rfl

theorem checkView_any (x : Lt) (s : Ls) (w : World) (hL : LS w x s) (hvm : x.vm.length ≤ 1000) :
    Calls Try.prog 30 #[.agg (x.cs s)] w fun e w' => e = .returned (.int .i64 x.chkV) ∧ Fr (fun _ => False) w w' := by
  have q0 := heap_alloc_new w (oLt x s)
  have F := Lib.hid (show Fr (fun _ => False) w (w.alloc (oLt x s)) from (Fr.refl _ _).alloc _)
  have Q := Lib.hid q0
  have HL := Lib.hid hL
  have HV := Lib.hid hvm
  clear q0 hL hvm
  go_enter Try.func30, Try.ntmps30
  go_upto_region 1 with fail
  generalize w.alloc (oLt x s) = w0 at *
  go_wp2_with (refine load_lt rfl 51 (.tmp 1) rfl w.heap.size (x.cs s) 51 (0, 0) rfl Q.out _ Try.underlying51 rfl (by kernel_rfl) ?_)
  refine (has_any x s 64 w0).mono ?_
  rintro e w1 ⟨rfl, f1⟩
  have Q1 := Lib.hid (crow_kept Q.out f1 (fun h => h))
  have F1 := Lib.hid (F.out.trans f1 (fun _ _ h => h))
  clear f1 F Q
  obtain ⟨b, hb⟩ : ∃ b, b = hasE x.k x.s 64 := ⟨_, rfl⟩
  obtain ⟨c, hc⟩ : ∃ c, c = longN x.vn := ⟨_, rfl⟩
  have HE := Lib.hid (chkV_of hb hc)
  rw [← hb]
  have HC := Lib.hid hc
  clear hb hc
  dsimp only
  cases b with
  | false =>
    go_wp2_with fail
    go_ret
    rw [HE.out]
    exact ⟨rfl, F1.out⟩
  | true =>
    obtain ⟨a3, c3, hva, hcm⟩ := (HL.out.v.fr F1.out).shape
    have HM := Lib.hid hcm
    obtain ⟨c15, c16, -, -, -, -, -, -, -, -, -⟩ := lt_cells3 Q1.out
    rw [hva] at c16
    clear hcm hva
    go_wp2_with fail
    refine (llong_any x.vn w1).mono ?_
    rintro e w2 ⟨rfl, rfl⟩
    rw [← HC.out]
    dsimp only
    cases c with
    | false =>
      go_wp2_with fail
      go_ret
      rw [HE.out]
      exact ⟨rfl, F1.out⟩
    | true =>
      have h0 : ¬ x.vn < 0 := by
        have := HC.out
        unfold longN at this
        simp at this
        omega
      have HC0 := Lib.hid h0
      clear h0
      go_wp2_with fail
      refine (tcheck_any x.vn x.vm a3 c3 w1 HM.out HV.out).mono ?_
      rintro e w3 ⟨rfl, f3⟩
      rw [if_neg (by have := HC0.out; omega)]
      have F3 := Lib.hid (F1.out.trans f3 (fun _ _ h => h))
      clear f3
      dsimp only
      go_wp2_with fail
      go_ret
      rw [HE.out]
      exact ⟨rfl, F3.out⟩
end
end Go.Proofs.Ytjnbpgadgdjobaa
