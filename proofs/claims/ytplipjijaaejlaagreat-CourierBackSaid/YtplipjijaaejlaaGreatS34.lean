/-
  CouBack, part 34 of what it rests on: Put1, Put2.
-/
import Derived.Test.YtplipjijaaejlaaGreatS04
import Derived.Test.YtplipjijaaejlaaGreatS33
import Derived.Test.YtplipjijaaejlaaGreatS09
import Derived.Test.YtplipjijaaejlaaGreatS12
set_option linter.unusedVariables false
set_option linter.unusedSimpArgs false
set_option maxHeartbeats 64000000
namespace Go.Proofs.YtplipjijaaejlaaGreat
open Go.RowKit
open Go.Lib (hid)
section
attribute [local go_sem] run_store_float
set_option maxRecDepth 100000

/-- WHAT A VALUE IS MARSHALLED AS. -/
def encE : KT → VT → List UInt8
  | .nil, _ => []
  | .mk _ _ _ _ _, .nil => []
  | .mk k m ns n of, .mk N f s c ov =>
    if k = 2 then be4 (N % 4294967296).toNat
    else if k = 3 then be8 (Fl.canon f)
    else if k = 4 then txt s
    else (if k = 5 then be2 c else if k = 6 then [] else be2 N.toNat) ++ ((List.range c).map (fun i => encE (of (if k = 6 then i else if k = 8 then N.toNat else 0)) (ov i))).flatten

/-- The bytes of the first j parts. -/
def partsB (g : Nat → List UInt8) (j : Nat) : List UInt8 := ((List.range j).map g).flatten
theorem partsB_succ (g : Nat → List UInt8) (j : Nat) : partsB g (j + 1) = partsB g j ++ g j := by
  unfold partsB; rw [List.range_succ, List.map_append, List.flatten_append]; simp
theorem partsB_le (g : Nat → List UInt8) (j c : Nat) (h : j ≤ c) : (partsB g j).length ≤ (partsB g c).length := by
  induction c with
  | zero => obtain rfl : j = 0 := by omega
            exact Nat.le_refl _
  | succ c ih =>
    by_cases e : j = c + 1
    · subst e; exact Nat.le_refl _
    · rw [partsB_succ, List.length_append]
      have := ih (by omega)
      omega

/-- The packer in block fb: its bytes, in a row of its own, and how many values. -/
abbrev PkSt (fb : Nat) (w : World) (c : Nat) (nv : Value) (l : List UInt8) : Prop := PWr (c : Int) w fb nv l

theorem PkSt.fr {S : Nat → Prop} {fb : Nat} {w w' : World} {c : Nat} {nv : Value} {l : List UInt8} (h : PkSt fb w c nv l) (f : Fr S w w') (h1 : ¬ S fb) (h2 : ∀ k, nv.ownBlock = some k → ¬ S k) : PkSt fb w' c nv l :=
  ⟨box_kept h.here f h1, h.own.fr f h2, h.apart⟩

/-- What comes of a call of the packer: whether all is fitting; what it then holds. -/
def PkDid (fb : Nat) (nv : Value) (w w' : World) (ok : Bool) (l' : List UInt8) (c' : Nat) : Prop :=
  ∃ nv' l2 c2, PkSt fb w' c2 nv' l2 ∧ (ok = true → l2 = l' ∧ c2 = c') ∧ Fr (fun k => k = fb ∨ nv.ownBlock = some k) w w' ∧ (nv'.ownBlock = nv.ownBlock ∨ ∀ k, nv'.ownBlock = some k → w.heap.size ≤ k)

theorem pfits_any (fb c : Nat) (nv : Value) (l : List UInt8) (w : World) (h : PkSt fb w c nv l) :
    Calls Tryz.prog 55 #[.pointer (some ⟨fb, 0, none⟩)] w fun e w' => e = .returned (.bool (decide (l.length ≤ 4000))) ∧ w' = w := by
  go_enter Tryz.func55, Tryz.ntmps55
  go_wp2_with fail
  refine (plen_any c fb nv l _ h).mono ?_
  rintro e w1 ⟨rfl, rfl⟩
  go_wp2_with fail
  go_ret
  exact ⟨congrArg (fun b => Ending.returned (Value.bool b)) (by rw [Bool.eq_iff_iff]; simp; try omega), rfl⟩

theorem pkword_any (fb c : Nat) (nv : Value) (l : List UInt8) (n : Int) (h0 : 0 ≤ n) (h1 : n ≤ 65535) (w : World) (h : PkSt fb w c nv l) (hl : l.length ≤ 4000) :
    Calls Tryz.prog 49 #[.pointer (some ⟨fb, 0, none⟩), .int .i64 n] w fun e w' => e = .returned (.bool (decide (l.length + 2 ≤ 4000))) ∧ PWrote (c : Int) fb nv (l ++ be2 n.toNat) w w' := by
  have hw : IntKind.u16.wrap n = n := by rw [IntKind.wrap_u16]; omega
  have hn : ¬ (65535 : Int) < n := by omega
  go_enter Tryz.func49, Tryz.ntmps49
  go_wp2_with fail
  refine (pword_any c fb nv l n h0 h1 _ h (by omega)).mono ?_
  rintro e w1 ⟨rfl, h2⟩
  have H2 := Lib.hid h2
  obtain ⟨nv2, hp, hf, hv⟩ := h2
  clear hw hn hf hv
  go_wp2_with fail
  refine (pfits_any fb c nv2 _ _ hp).mono ?_
  rintro e w2 ⟨rfl, rfl⟩
  go_wp2_with fail
  go_ret
  refine ⟨?_, H2.out⟩
  show Ending.returned (.bool (decide (l.length + (be2 n.toNat).length ≤ 4000))) = _
  rw [be2_length]

theorem pktext_any (fb c : Nat) (nv : Value) (l : List UInt8) (s : Txt) (hs : s.length ≤ 60) (w : World) (h : PkSt fb w c nv l) (hl : l.length ≤ 4000) :
    Calls Tryz.prog 53 #[.pointer (some ⟨fb, 0, none⟩), .string ⟨s.toArray⟩] w fun e w' => e = .returned (.bool (decide (l.length + (txt s).length ≤ 4000))) ∧ PWrote (c : Int) fb nv (l ++ txt s) w w' := by
  obtain ⟨X, hX⟩ : ∃ X : ByteArray, X = ⟨s.toArray⟩ := ⟨_, rfl⟩
  have hXs : X.size = s.length := by rw [hX]; show s.toArray.size = s.length; simp
  have hXd : X.data.toList = s := by rw [hX]
  rw [← hX, ← hXd]
  have hX1 : X.size ≤ 60 := by omega
  have hX2 : ¬ (4000 : Int) < (X.size : Int) := by omega
  clear hX hXs hXd hs
  go_enter Tryz.func53, Tryz.ntmps53
  go_wp2_with fail
  refine (ptext_any c fb nv l X (by omega) _ h (by omega)).mono ?_
  rintro e w1 ⟨rfl, h2⟩
  have H2 := Lib.hid h2
  obtain ⟨nv2, hp, hf, hv⟩ := h2
  clear hf hv hX2
  go_wp2_with fail
  refine (pfits_any fb c nv2 _ _ hp).mono ?_
  rintro e w2 ⟨rfl, rfl⟩
  go_wp2_with fail
  go_ret
  exact ⟨rfl, H2.out⟩

/-- The type of a part: of a sequence all have one; of a record each its own. -/
theorem part_any (R : Nat → Prop) (k : Nat) (m : Int) (ns : List Txt) (n : Nat) (of : Nat → KT) (v : Value) (i : Nat) (w : World) (hsh : Shows R w (.mk k m ns n of) v) (hi : (if k = 5 then 0 else i) < n) :
    Calls Tryz.prog 72 #[v, .int .i64 i] w fun e w' => ∃ v', e = .returned v' ∧ Shows R w' (of (if k = 5 then 0 else i)) v' ∧ Fr (fun _ => False) w w' := by
  obtain ⟨q, hq⟩ : ∃ q, (if k = 5 then 0 else i) = q := ⟨_, rfl⟩
  rw [hq] at hi ⊢
  have HQ := Lib.hid hq
  clear hq
  obtain ⟨vn, vo, rfl, hk, hn, ht, ho⟩ := hsh
  obtain ⟨na, nc, rfl, -⟩ := ht.shape
  rcases ho with ⟨rfl, _⟩ | ⟨g, off, cap, hg, rfl, hle, hc⟩
  · omega
  obtain ⟨x0, x1, x2, x3, c0, c1, c2, c3, hx⟩ := hc _ hi
  obtain ⟨tk, tm, ta, tn, tc, ta', tn', tc', e12⟩ := hx.four
  have f1 : Fr (fun _ => False) w ((w.alloc (.cells #[.int .u8 k, .int .i64 m, .slice na ns.length nc, .slice (some ⟨g, off, none⟩) n cap] 34)).alloc (.cells #[.int .u8 0, .int .i64 0, .slice none 0 0, .slice none 0 0] 34)) := ((Fr.refl _ _).alloc _).alloc _
  have q1 := heap_alloc_first w (.cells #[.int .u8 k, .int .i64 m, .slice na ns.length nc, .slice (some ⟨g, off, none⟩) n cap] 34) (.cells #[.int .u8 0, .int .i64 0, .slice none 0 0, .slice none 0 0] 34)
  have q2 := heap_alloc_two w (.cells #[.int .u8 k, .int .i64 m, .slice na ns.length nc, .slice (some ⟨g, off, none⟩) n cap] 34) (.cells #[.int .u8 0, .int .i64 0, .slice none 0 0, .slice none 0 0] 34)
  simp only [Value.agg.injEq, Array.mk.injEq, List.cons.injEq, and_true] at e12
  obtain ⟨rfl, rfl, rfl, rfl⟩ := e12
  have HX := Lib.hid hx
  clear ht hx hc
  have hbg : g < w.heap.size := World.block_lt_of_cell? w _ c0
  obtain ⟨w1, hw1⟩ : ∃ w1, w1 = (w.alloc (.cells #[.int .u8 k, .int .i64 m, .slice na ns.length nc, .slice (some ⟨g, off, none⟩) n cap] 34)).alloc (.cells #[.int .u8 0, .int .i64 0, .slice none 0 0, .slice none 0 0] 34) := ⟨_, rfl⟩
  rw [← hw1] at f1 q1 q2
  replace c0 := cell_fr f1 (fun _ _ h => h) (R := fun _ => True) trivial c0
  replace c1 := cell_fr f1 (fun _ _ h => h) (R := fun _ => True) trivial c1
  replace c2 := cell_fr f1 (fun _ _ h => h) (R := fun _ => True) trivial c2
  replace c3 := cell_fr f1 (fun _ _ h => h) (R := fun _ => True) trivial c3
  have HW1 := Lib.hid hw1
  have F1 := Lib.hid f1
  clear hw1 f1
  go_enter Tryz.func72, Tryz.ntmps72
  go_upto_region 1 with fail
  rw [← HW1.out]
  generalize hgv : w.heap.size + 1 = gr at *
  generalize hgw : w.heap.size = gt at *
  obtain ⟨p0, p1, p2, p3⟩ := cell_of_four q1
  obtain ⟨r0, r1, r2, r3⟩ := cell_of_four q2
  have z0 : w1.frozen? ⟨gr, 0, none⟩ = false := by simp [World.frozen?, q2]
  have z1 : w1.frozen? ⟨gr, 1, none⟩ = false := by simp [World.frozen?, q2]
  have z2 : w1.frozen? ⟨gr, 2, none⟩ = false := by simp [World.frozen?, q2]
  have z3 : w1.frozen? ⟨gr, 3, none⟩ = false := by simp [World.frozen?, q2]
  have HST := Lib.hid (store_four (y0 := .int .u8 tk) (y1 := .int .i64 tm) (y2 := .slice ta tn tc) (y3 := .slice ta' tn' tc') q2)
  have HF : Hid (Fr (fun _ => False) w ((((w1.setCell ⟨gr, 0, none⟩ (.int .u8 tk)).setCell ⟨gr, 1, none⟩ (.int .i64 tm)).setCell ⟨gr, 2, none⟩ (.slice ta tn tc)).setCell ⟨gr, 3, none⟩ (.slice ta' tn' tc'))) := Lib.hid (fr_four _ _ _ _ F1.out (fun h => by omega))
  clear q1 q2 hgv hgw
  by_cases hk5 : k = 5
  · obtain rfl : 0 = q := by have := HQ.out; rw [if_pos hk5] at this; exact this
    simp only [Nat.zero_mul, Nat.add_zero] at hi c0 c1 c2 c3
    have e5 : (((k : Nat) : Int) == 5) = true := by simp; omega
    obtain ⟨kz, hkz⟩ : ∃ kz : Int, ((k : Nat) : Int) = kz := ⟨_, rfl⟩
    rw [hkz] at e5 p0 ⊢
    have hi0 : (0 : Int) < (n : Int) := by omega
    clear hk5 hkz
    go_wp2_with fail
    refine bodyPost_ret (results_cell_row rfl _ _ gr 34 _ _ _ rfl HST.out Tryz.underlying34 rfl (by kernel_rfl)) rfl ?_
    exact ⟨_, rfl, Shows.fr HF.out (fun _ _ h => h) _ _ HX.out, HF.out⟩
  · obtain rfl : i = q := by have := HQ.out; rw [if_neg hk5] at this; exact this
    have e5 : (((k : Nat) : Int) == 5) = false := by simp; omega
    obtain ⟨kz, hkz⟩ : ∃ kz : Int, ((k : Nat) : Int) = kz := ⟨_, rfl⟩
    rw [hkz] at e5 p0 ⊢
    have hi0 : (i : Int) < (n : Int) := by omega
    clear hk5 hkz
    go_wp2_with fail
    refine bodyPost_ret (results_cell_row rfl _ _ gr 34 _ _ _ rfl HST.out Tryz.underlying34 rfl (by kernel_rfl)) rfl ?_
    exact ⟨_, rfl, Shows.fr HF.out (fun _ _ h => h) _ _ HX.out, HF.out⟩
end
section
attribute [local go_sem] run_store_float
set_option maxRecDepth 100000

theorem pmode_gc : (Region.Mode.any == Region.Mode.gc) = false := rfl

/-- The packer, as it goes on from w1. -/
def PkIn (fb : Nat) (nv : Value) (w1 : World) (c : Nat) (nv' : Value) (l : List UInt8) (wx : World) : Prop :=
  PkSt fb wx c nv' l ∧ Fr (fun k => k = fb ∨ nv.ownBlock = some k) w1 wx ∧ (nv'.ownBlock = nv.ownBlock ∨ ∀ k, nv'.ownBlock = some k → w1.heap.size ≤ k)

theorem PkIn.start {fb c : Nat} {nv : Value} {l : List UInt8} {w : World} (h : PkSt fb w c nv l) : PkIn fb nv w c nv l w := ⟨h, Fr.refl _ _, .inl rfl⟩

theorem PkIn.quiet {fb c : Nat} {nv nv' : Value} {l : List UInt8} {w1 wx wy : World} (h : PkIn fb nv w1 c nv' l wx) (f : Fr (fun _ => False) wx wy) : PkIn fb nv w1 c nv' l wy :=
  ⟨h.1.fr f (fun h => h) (fun _ _ h => h), h.2.1.trans f (fun _ _ h => h.elim), h.2.2⟩

theorem PkIn.trans {fb c c2 : Nat} {nv nv1 nv2 : Value} {l l2 : List UInt8} {w1 wa wb : World} (h : PkIn fb nv w1 c nv1 l wa) (h2 : PkIn fb nv1 wa c2 nv2 l2 wb) : PkIn fb nv w1 c2 nv2 l2 wb := by
  refine ⟨h2.1, h.2.1.trans h2.2.1 (fun i hi e => ?_), ?_⟩
  · rcases e with e | e
    · exact .inl e
    · rcases h.2.2 with h3 | h3
      · exact .inr (by rw [← h3]; exact e)
      · have := h3 i e; omega
  · rcases h2.2.2 with h3 | h3
    · rw [h3]; exact h.2.2
    · exact .inr (fun k hk => Nat.le_trans h.2.1.size (h3 k hk))

theorem PkIn.base {fb c : Nat} {nv nv' : Value} {l : List UInt8} {w w1 wx : World} (f : Fr (fun _ => False) w w1) (h : PkIn fb nv w1 c nv' l wx) : PkIn fb nv w c nv' l wx :=
  ⟨h.1, (f.mono (fun _ _ h => h.elim)).trans h.2.1 (fun _ _ h => h), h.2.2.imp id (fun h k hk => Nat.le_trans f.size (h k hk))⟩

theorem own_lt' {w : World} {v : Value} {l : List UInt8} (h : Own w v l) : ∀ k, v.ownBlock = some k → k < w.heap.size := fun k hk => Own.lt h k hk

/-- Memory that is not the packer's goes on to be so. -/
theorem PkIn.off {fb c : Nat} {nv nv' : Value} {l : List UInt8} {w1 wx : World} (h : PkIn fb nv w1 c nv' l wx) {k : Nat} (hk : k < w1.heap.size) (h1 : k ≠ fb) (h2 : nv.ownBlock ≠ some k) : ¬ (k = fb ∨ nv'.ownBlock = some k) := by
  rintro (e | e)
  · exact h1 e
  · rcases h.2.2 with h3 | h3
    · exact h2 (by rw [← h3]; exact e)
    · have := h3 k e; omega

/-- What a call of the packer came to. -/
def PkEnd (fb : Nat) (nv : Value) (w w' : World) (ok : Bool) (l' : List UInt8) (c' : Nat) : Prop := ∃ nv' l2 c2, PkIn fb nv w c2 nv' l2 w' ∧ (ok = true → l2 = l' ∧ c2 = c')

/-- What put does: of values of the type. -/
def PutAt (t : KT) : Prop := ∀ (R : Nat → Prop) (v vv : Value) (w : World) (T : VT) (fb c : Nat) (nv : Value) (l : List UInt8), Shows R w t v → VShows R w T vv → goodE t → isE t T = true → PkSt fb w c nv l → (∀ k, R k → k ≠ fb ∧ nv.ownBlock ≠ some k) → l.length ≤ 4000 → c + szV T ≤ 1000000 →
  Calls Tryz.prog 31 #[.pointer (some ⟨fb, 0, none⟩), v, vv] w fun e w' => e = .returned (.bool (decide ((l ++ encE t T).length ≤ 4000))) ∧ PkEnd fb nv w w' (decide ((l ++ encE t T).length ≤ 4000)) (l ++ encE t T) (c + szV T)

/-- While one part is put. -/
def EachS (R : Nat → Prop) (t : KT) (fb : Nat) (nv : Value) (w2 : World) (c : Nat) (l : List UInt8) (ok : Bool) (l2 : List UInt8) (c2 : Nat) : List Value → World → Prop
  | [], wx => PkIn fb nv w2 c nv l wx
  | [v], wx => PkIn fb nv w2 c nv l wx ∧ Shows R wx t v
  | _, wx => PkEnd fb nv w2 wx ok l2 c2

theorem EachS.fr {R : Nat → Prop} {t : KT} {fb : Nat} {nv : Value} {w2 : World} {c : Nat} {l : List UInt8} {ok : Bool} {l2 : List UInt8} {c2 : Nat} {cvs : List Value} {wx : World} (h : EachS R t fb nv w2 c l ok l2 c2 cvs wx) : Fr (fun k => k = fb ∨ nv.ownBlock = some k) w2 wx := by
  unfold EachS at h
  split at h
  · exact h.2.1
  · exact h.1.2.1
  · obtain ⟨_, _, _, h, _⟩ := h; exact h.2.1

theorem peach_any (k : Nat) (m : Int) (ns : List Txt) (n : Nat) (of : Nat → KT) (c : Nat) (ov : Nat → VT) (ih : ∀ i, i < c → PutAt (of (if k = 5 then 0 else i)))
    (R0 : Nat → Prop) (tv : Value) (w : World) (fb q : Nat) (nv : Value) (l : List UInt8) (va : Option Addr) (cap : Nat) (hsh0 : Shows R0 w (.mk k m ns n of) tv) (hvk0 : VKids R0 w ov va c cap) (hin : ∀ i, i < c → (if k = 5 then 0 else i) < n)
    (hgi : ∀ i, i < c → goodE (of (if k = 5 then 0 else i)) ∧ isE (of (if k = 5 then 0 else i)) (ov i) = true) (hst : PkSt fb w q nv l) (hR0 : ∀ k, R0 k → k ≠ fb ∧ nv.ownBlock ≠ some k) (hl : l.length ≤ 4000) (hq : q + sumTo (fun i => szV (ov i)) c ≤ 1000000) (hc : c ≤ 100000) :
    Calls Tryz.prog 54 #[.pointer (some ⟨fb, 0, none⟩), tv, .slice va c cap] w fun e w' =>
      e = .returned (.bool (decide ((l ++ partsB (fun i => encE (of (if k = 5 then 0 else i)) (ov i)) c).length ≤ 4000))) ∧ PkEnd fb nv w w' (decide ((l ++ partsB (fun i => encE (of (if k = 5 then 0 else i)) (ov i)) c).length ≤ 4000)) (l ++ partsB (fun i => encE (of (if k = 5 then 0 else i)) (ov i)) c) (q + sumTo (fun i => szV (ov i)) c) := by
  obtain ⟨R, hRd⟩ : ∃ R : Nat → Prop, R = fun k => R0 k ∧ k < w.heap.size := ⟨_, rfl⟩
  have hR : ∀ k, R k → k ≠ fb ∧ nv.ownBlock ≠ some k := by rw [hRd]; exact fun k h => hR0 k h.1
  have hRw : ∀ k, R k → k < w.heap.size := by rw [hRd]; exact fun k h => h.2
  have hsh : Shows R w _ tv := Shows.mono (fun k hk h => by rw [hRd]; exact ⟨h, hk⟩) _ _ hsh0
  have hvk : VKids R w ov va c cap := by
    rcases hvk0 with h | ⟨h1, g, off, hg, rfl, hcc⟩
    · exact .inl h
    · by_cases h0 : c = 0
      · exact .inl h0
      · refine .inr ⟨h1, g, off, ?_, rfl, fun i hi => ?_⟩
        · obtain ⟨x0, x1, x2, x3, c0, _⟩ := hcc 0 (by omega)
          rw [hRd]; exact ⟨hg, World.block_lt_of_cell? w _ c0⟩
        · obtain ⟨x0, x1, x2, x3, c0, c1, c2, c3, hx⟩ := hcc i hi
          exact ⟨x0, x1, x2, x3, c0, c1, c2, c3, VShows.mono (fun k hk h => by rw [hRd]; exact ⟨h, hk⟩) _ _ hx⟩
  clear hsh0 hvk0 hR0 hRd
  obtain ⟨g, hg⟩ : ∃ g : Nat → List UInt8, g = fun i => encE (of (if k = 5 then 0 else i)) (ov i) := ⟨_, rfl⟩
  rw [← hg]
  obtain ⟨sz, hsz⟩ : ∃ sz : Nat → Nat, sz = fun i => szV (ov i) := ⟨_, rfl⟩
  rw [← hsz] at hq ⊢
  obtain ⟨OK, hOK⟩ : ∃ OK, decide ((l ++ partsB g c).length ≤ 4000) = OK := ⟨_, rfl⟩
  rw [hOK]
  have HOKK := Lib.hid hOK
  clear hOK
  obtain ⟨tk, tm, ta, tn, tc, ta', tn', tc', rfl⟩ := hsh.four
  obtain ⟨w1, hw1⟩ : ∃ w1, w1 = w.alloc (.cells #[.int .u8 tk, .int .i64 tm, .slice ta tn tc, .slice ta' tn' tc'] 34) := ⟨_, rfl⟩
  have f1 : Fr (fun _ => False) w w1 := by rw [hw1]; exact (Fr.refl _ _).alloc _
  have q1 : w1.heap[w.heap.size]? = some (.cells #[.int .u8 tk, .int .i64 tm, .slice ta tn tc, .slice ta' tn' tc'] 34 (0, 0)) := by rw [hw1]; exact heap_alloc_new _ _
  have HG := Lib.hid (And.intro hg hsz)
  have HSH := Lib.hid (Shows.fr f1 (fun _ _ h => h) _ _ hsh)
  have HVK := Lib.hid (hvk.fr f1 (fun _ _ h => h))
  have HIN := Lib.hid hin
  have HGI := Lib.hid hgi
  have HIH := Lib.hid ih
  have HR := Lib.hid (And.intro hR hRw)
  have HQ := Lib.hid hq
  have HST := Lib.hid (PkIn.start (hst.fr f1 (fun h => h) (fun _ _ h => h)))
  have hfbl : fb < w.heap.size := lt_of_block hst.here
  have HOWN := Lib.hid (own_lt' hst.own)
  have F1 := Lib.hid f1
  have HL := Lib.hid hl
  clear hsh hvk hin hgi ih hR hRw hq hst f1 hg hsz hl
  go_enter Tryz.func54, Tryz.ntmps54
  go_upto_region 1 with fail
  rw [← hw1]
  clear hw1
  obtain ⟨tb, htb⟩ : ∃ tb, w.heap.size = tb := ⟨_, rfl⟩
  rw [htb] at q1 hfbl ⊢
  have H1 := Lib.hid (And.intro q1 htb)
  have HOFF : Hid (tb < w1.heap.size ∧ tb ≠ fb ∧ nv.ownBlock ≠ some tb) := Lib.hid ⟨lt_of_block q1, by omega, fun e => by have := HOWN.out tb e; omega⟩
  clear q1 htb hfbl
  go_wp2_with fail
  go_loopg [11] c (fun G u11 wr => ∃ (j : Nat) (nv' : Value) (qj : Nat), j ≤ c ∧ G = c - j ∧ u11 = .int .i64 j ∧ Hid (PkIn fb nv w1 qj nv' (l ++ partsB g j) wr) ∧ Hid ((l ++ partsB g j).length ≤ 4000) ∧ Hid (qj = q + sumTo sz j))
  case atStart => exact ⟨0, nv, q, Nat.zero_le _, rfl, by go_num, by simpa [partsB] using HST, by simpa [partsB] using HL, Lib.hid (by simp [sumTo])⟩
  case round =>
    obtain ⟨j, nv', qj, hj, rfl, rfl, HI, HLJ, HQJ⟩ := hrel
    by_cases hlt : j < c
    case neg =>
      obtain rfl : j = c := by omega
      have HOK : Hid (OK = true) := Lib.hid (by rw [← HOKK.out]; exact decide_eq_true HLJ.out)
      clear hlt
      go_wp2_with fail
      go_ret
      exact ⟨by rw [HOK.out]; rfl, nv', _, _, PkIn.base F1.out HI.out, fun _ => ⟨rfl, HQJ.out⟩⟩
    case pos =>
      obtain ⟨wa, hwa⟩ : ∃ wa : World, wa = wr := ⟨_, rfl⟩
      rcases HVK.out with hz | ⟨hvcap, gv, ov', hgv, rfl, hvcell⟩
      · omega
      obtain ⟨s0, s1, s2, s3, r0, r1, r2, r3, hsv⟩ := hvcell j hlt
      obtain ⟨zn, zf, zs, za, zc, zcap, es⟩ := hsv.lit
      simp only [Value.agg.injEq, Array.mk.injEq, List.cons.injEq, and_true] at es
      obtain ⟨rfl, rfl, rfl, rfl⟩ := es
      have hoffR : ∀ x, R x → ¬ (x = fb ∨ nv.ownBlock = some x) := fun x hx h => by
        rcases h with h | h
        · exact (HR.out.1 x hx).1 h
        · exact (HR.out.1 x hx).2 h
      have rr0 := cell_fr HI.out.2.1 hoffR hgv r0
      have rr1 := cell_fr HI.out.2.1 hoffR hgv r1
      have rr2 := cell_fr HI.out.2.1 hoffR hgv r2
      have rr3 := cell_fr HI.out.2.1 hoffR hgv r3
      have HSV := Lib.hid (VShows.fr HI.out.2.1 hoffR _ _ hsv)
      have HSHr := Lib.hid (Shows.fr HI.out.2.1 hoffR _ _ HSH.out)
      have hoffR' : ∀ x, R x → x ≠ fb ∧ nv'.ownBlock ≠ some x := fun x hx => by
        have h := HI.out.off (k := x) (by have := HR.out.2 x hx; have := F1.out.size; omega) (HR.out.1 x hx).1 (HR.out.1 x hx).2
        exact ⟨fun e => h (.inl e), fun e => h (.inr e)⟩
      have HOR := Lib.hid hoffR'
      have HLT := Lib.hid hlt
      have q2 : (wr.alloc (.cells #[.int .i64 zn, .float .f64 zf, .string zs, .slice za zc zcap] 39)).heap[wr.heap.size]? = some (.cells #[.int .i64 zn, .float .f64 zf, .string zs, .slice za zc zcap] 39 (0, 0)) := heap_alloc_new _ _
      have f2 : Fr (fun _ => False) wr (wr.alloc (.cells #[.int .i64 zn, .float .f64 zf, .string zs, .slice za zc zcap] 39)) := (Fr.refl _ _).alloc _
      clear r0 r1 r2 r3 hsv hvcell hoffR hoffR'
      have jc : (j : Int) < (c : Int) := by omega
      go_upto_region 4 with fail
      clear rr0 rr1 rr2 rr3
      generalize wr.alloc (.cells #[.int .i64 zn, .float .f64 zf, .string zs, .slice za zc zcap] 39) = w2 at *
      have HVB : Hid (wr.heap.size ≠ fb ∧ nv'.ownBlock ≠ some wr.heap.size) := Lib.hid ⟨fun e => by have := lt_of_block HI.out.1.here; omega, fun e => by have := own_lt' HI.out.1.own _ e; omega⟩
      generalize wr.heap.size = vb at *
      have Q2 := Lib.hid q2
      have F2 := Lib.hid f2
      have HTB : Hid (w2.heap[tb]? = some (.cells #[.int .u8 tk, .int .i64 tm, .slice ta tn tc, .slice ta' tn' tc'] 34 (0, 0)) ∧ tb ≠ fb ∧ nv'.ownBlock ≠ some tb) := Lib.hid (by
        have h := HI.out.off HOFF.out.1 HOFF.out.2.1 HOFF.out.2.2
        refine ⟨box_kept (box_kept H1.out.1 HI.out.2.1 (fun h' => by rcases h' with h' | h'; exact HOFF.out.2.1 h'; exact HOFF.out.2.2 h')) f2 (fun h => h), fun e => h (.inl e), fun e => h (.inr e)⟩)
      have HSH2 := Lib.hid (Shows.fr f2 (fun _ _ h => h) _ _ HSHr.out)
      have HSV2 := Lib.hid (VShows.fr f2 (fun _ _ h => h) _ _ HSV.out)
      have HP2 : Hid (PkIn fb nv' w2 qj nv' (l ++ partsB g j) w2) := Lib.hid (PkIn.start (HI.out.1.fr f2 (fun h => h) (fun _ _ h => h)))
      clear q2 f2
      obtain ⟨b, hb⟩ : ∃ b, b = decide ((l ++ partsB g j ++ g j).length ≤ 4000) := ⟨_, rfl⟩
      have HB := Lib.hid hb
      clear hb
      refine wp_region_chain (by kernel_rfl) [some 16, some 17, some 18, some 19, some 20, some 21, some 22] rfl (by decide) (by intro d hd; simp at hd ⊢; omega)
        [3, 5] (fun cvs wx => EachS R (of (if k = 5 then 0 else j)) fb nv' w2 qj (l ++ partsB g j) b (l ++ partsB g j ++ g j) (qj + sz j) cvs wx)
        [.free (.pointer (some ⟨fb, 0, none⟩)), .free (.agg #[.int .u8 tk, .int .i64 tm, .slice ta tn tc, .slice ta' tn' tc']), .free (.int .i64 j), .link none, .free (.agg #[.int .i64 zn, .float .f64 zf, .string zs, .slice za zc zcap]), .link (some (.bool b)), .free (.bool (!b))]
        (by kernel_rfl) (by kernel_rfl) ?h4 ?step4 ?fin4
      case h4 => exact HP2.out.quiet (Fr.refl _ _).drew
      case step4 =>
        intro vals
        simp only [frOfU, fillU, List.setIfInBounds_toArray, List.set_cons_succ, List.set_cons_zero]
        repeat' (first | exact AllOps.nil | refine AllOps.cons ?_ ?_)
        all_goals
          intro cvs wx hS he hu hlim Kc hK
          simp only [Act.put, List.setIfInBounds_toArray, List.set_cons_succ, List.set_cons_zero, List.getD_cons_zero, List.getD_cons_succ] at hK
          simp only [List.mem_cons, List.not_mem_nil, or_false, forall_eq_or_imp, forall_eq, Region.binds, forall_const, pmode_gc, Bool.false_eq_true, false_imp_iff, List.getD_cons_zero, List.getD_cons_succ, OpSort.val, Option.some.injEq, forall_eq', reduceCtorEq, implies_true, true_and, and_true] at he
          have hfr := EachS.fr hS
          obtain ⟨t0, t1, t2, t3⟩ := cell_of_four (box_kept HTB.out.1 hfr (fun h => by rcases h with h | h; exact HTB.out.2.1 h; exact HTB.out.2.2 h))
          obtain ⟨u0, u1, u2, u3⟩ := cell_of_four (box_kept Q2.out hfr (fun h => by rcases h with h | h; exact HVB.out.1 h; exact HVB.out.2 h))
          clear hfr
          have HSX := Lib.hid hS
          clear hS
        all_goals first | (clear hlim hu; (try simp only [he] at hK ⊢); go_simp; exact hK) | skip
        · obtain rfl := hlim (0 : Nat) rfl
          have h1 : PkIn fb nv' w2 qj nv' (l ++ partsB g j) wx := HSX.out
          have H1' := Lib.hid h1
          clear hlim hu HSX h1 t0 t1 t2 t3 u0 u1 u2 u3
          simp only [he] at hK ⊢
          clear he
          go_simp
          go_at_call 72
          refine (part_any R k m ns n of _ j _ (Shows.fr H1'.out.2.1 (fun x hx h => by rcases h with h | h; exact (HOR.out x hx).1 h; exact (HOR.out x hx).2 h) _ _ HSH2.out) (HIN.out j HLT.out)).mono ?_
          rintro e1 wb ⟨v', rfl, hsv, fa⟩
          exact hK _ _ (fun _ h => by cases h) ⟨H1'.out.quiet fa, hsv⟩
        · obtain rfl := hlim (1 : Nat) rfl
          have h1 := HSX.out
          clear HSX hlim hu
          simp only [List.take_succ_cons, List.take_zero, List.map_cons, List.map_nil] at h1 hK
          obtain ⟨h2, h3⟩ := h1
          obtain ⟨yk, ym, ya, yn, yc, ya', yn', yc', e12⟩ := h3.four
          have H2 := Lib.hid (And.intro h2 h3)
          clear h2 h3 t0 t1 t2 t3 u0 u1 u2 u3
          simp only [he, e12] at hK ⊢
          go_simp
          go_at_call 31
          have hpa := HIH.out j HLT.out R _ _ wx (ov j) fb qj nv' (l ++ partsB g j) H2.out.2 (VShows.fr H2.out.1.2.1 (fun x hx h => by rcases h with h | h; exact (HOR.out x hx).1 h; exact (HOR.out x hx).2 h) _ _ HSV2.out) (HGI.out j HLT.out).1 (HGI.out j HLT.out).2 H2.out.1.1 HOR.out HLJ.out (by
            have h1 := sumTo_le sz j c HLT.out
            have h2 := HQ.out
            have h3 := HQJ.out
            have h4 : sz j = szV (ov j) := by rw [HG.out.2]
            omega)
          rw [e12] at hpa
          refine hpa.mono ?_
          rintro e1 wb ⟨rfl, nv2, l2, c2, hp2, hok⟩
          have e5 : encE (of (if k = 5 then 0 else j)) (ov j) = g j := by rw [HG.out.1]
          have e6 : szV (ov j) = sz j := by rw [HG.out.2]
          rw [e5, e6] at hok
          rw [e5]
          refine hK _ _ (fun _ h => by cases h; rw [HB.out]) ⟨nv2, l2, c2, H2.out.1.trans hp2, fun h => hok (by rw [← HB.out]; exact h)⟩
      case fin4 =>
        intro vals w3 hS hV
        have v5 := hV 5 _ (by decide) rfl
        have v6 := hV 6 _ (by decide) rfl
        clear hV
        simp only [List.map_cons, List.map_nil] at hS
        obtain ⟨nv2, l2, c2, hp, hok⟩ := hS
        have HP := Lib.hid (And.intro hp hok)
        clear hp hok
        simp only [frOfU, fillU, List.setIfInBounds_toArray, List.set_cons_succ, List.set_cons_zero]
        simp only [Nat.reduceAdd, v5, v6]
        have HST2 : Hid (partsB g (j + 1) = partsB g j ++ g j) := Lib.hid (partsB_succ g j)
        have HPT : Hid (PkIn fb nv w1 c2 nv2 l2 w3) := Lib.hid (by
          have h := HI.out.quiet F2.out
          exact h.trans HP.out.1)
        cases b
        · have HNO : Hid (OK = false) := Lib.hid (by
            rw [← HOKK.out]
            have h1 := HB.out
            have h2 := partsB_le g (j + 1) c HLT.out
            rw [HST2.out] at h2
            simp only [List.length_append] at h1 h2 ⊢
            have h3 : ¬ (l.length + (partsB g j).length + (g j).length ≤ 4000) := of_decide_eq_false h1.symm
            exact decide_eq_false (by omega))
          clear v5 v6
          go_wp2_with fail
          go_ret
          exact ⟨by rw [HNO.out]; rfl, nv2, l2, c2, PkIn.base F1.out HPT.out, fun h => by rw [HNO.out] at h; cases h⟩
        · obtain ⟨e1, e2⟩ := HP.out.2 rfl
          have HL2 : Hid ((l ++ partsB g (j + 1)).length ≤ 4000) := Lib.hid (by rw [HST2.out, ← List.append_assoc]; exact of_decide_eq_true HB.out.symm)
          have HQ2 : Hid (c2 = q + sumTo sz (j + 1)) := Lib.hid (by rw [e2, HQJ.out, sumTo_succ]; omega)
          have HPI : Hid (PkIn fb nv w1 c2 nv2 (l ++ partsB g (j + 1)) w3) := Lib.hid (by rw [HST2.out, ← List.append_assoc, ← e1]; exact HPT.out)
          clear v5 v6 e1 e2
          go_wp2_with fail
          go_roundg (c - (j + 1))
          case measure => omega
          case rel => exact ⟨j + 1, nv2, c2, by omega, rfl, by go_num, HPI, HL2, HQ2⟩
end
end Go.Proofs.YtplipjijaaejlaaGreat
