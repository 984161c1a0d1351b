/-
  The law VoteBack, walked.
-/
import Derived.Test.YtmpnomngnfffbaaVotBytes
import Derived.Test.YtmpnomngnfffbaaPairB
import Derived.Test.YtmpnomngnfffbaaTwo
import Derived.Test.YtmpnomngnfffbaaCrcSum
namespace Go.Proofs.Ytmpnomngnfffbaa
open Go.RowKit
set_option maxRecDepth 100000

theorem si_old {w : World} {v : Value} {l : List Int} (h : SI w v l) (hl : l ≠ []) : ∀ k, v.ownBlock = some k → k < w.heap.size := by
  obtain ⟨a, c, rfl, hc⟩ := h.shape
  exact sic_old hc hl

/-- An entry, in memory of R. -/
def seenE (x : En) : Seen where
  sh R w v := ∃ v' u', v = x.val v' u' ∧ ES w x v' u' ∧ (x.l = [] ∨ ∀ k, v'.ownBlock = some k → R k) ∧ (x.m = [] ∨ ∀ k, u'.ownBlock = some k → R k)
  fr := by
    rintro R S w w' v f hd ⟨v', u', e, he, h1, h2⟩
    exact ⟨v', u', e, ⟨he.1.keep f (h1.imp id (fun h k hk => hd k (h k hk))), he.2.keep f (h2.imp id (fun h k hk => hd k (h k hk)))⟩, h1, h2⟩
  mono := by
    rintro R S w v hm ⟨v', u', e, he, h1, h2⟩
    refine ⟨v', u', e, he, ?_, ?_⟩
    · by_cases hl : x.l = []
      · exact .inl hl
      · exact .inr (fun k hk => hm k (sees_old he.1 hl k hk) ((h1.resolve_left hl) k hk))
    · by_cases hl : x.m = []
      · exact .inl hl
      · exact .inr (fun k hk => hm k (si_old he.2 hl k hk) ((h2.resolve_left hl) k hk))

def zeroE6 : Array Value := #[.int .u8 0, .int .u16 0, .int .u16 0, .int .i64 0, .slice none 0 0, .slice none 0 0]

theorem seenE_lit {x : En} {R : Nat → Prop} {w : World} {v : Value} (h : (seenE x).sh R w v) : ∃ (k t n p : Int) (a : Option Addr) (m c : Nat) (a' : Option Addr) (m' c' : Nat), v = .agg #[.int .u8 k, .int .u16 t, .int .u16 n, .int .i64 p, .slice a m c, .slice a' m' c'] := by
  obtain ⟨v', u', rfl, he, _⟩ := h
  obtain ⟨a, c, rfl, _⟩ := he.1.shape
  obtain ⟨a', c', rfl, _⟩ := he.2.shape
  exact ⟨_, _, _, _, _, _, _, _, _, _, rfl⟩

theorem seenE_of {B : Nat} {x : En} {wx wa : World} {v' u' : Value} (he : ES wa x v' u') (haw : ∀ b, B ≤ b → b < wx.heap.size → Away b x v' u') : (seenE x).sh (fun k => k < B ∨ wx.heap.size ≤ k) wa (x.val v' u') := by
  refine ⟨v', u', rfl, he, ?_, ?_⟩
  · by_cases hl : x.l = []
    · exact .inl hl
    · refine .inr (fun k hk => ?_)
      by_cases h1 : k < B
      · exact .inl h1
      · by_cases h2 : wx.heap.size ≤ k
        · exact .inr h2
        · exact absurd hk (((haw k (by omega) (by omega)).1).resolve_left hl)
  · by_cases hl : x.m = []
    · exact .inl hl
    · refine .inr (fun k hk => ?_)
      by_cases h1 : k < B
      · exact .inl h1
      · by_cases h2 : wx.heap.size ≤ k
        · exact .inr h2
        · exact absurd hk (((haw k (by omega) (by omega)).2).resolve_left hl)

/-- Specs of values in a region: a known value; bytes. -/
inductive VB where
  | is (v : Value)
  | by (l : List UInt8)
def VB.holds : VB → Value → World → Prop
  | .is v, y, _ => y = v
  | .by l, y, w => Sees w y l
def vbV (l : List VB) (i : Nat) (v : Value) (w : World) : Prop := (l.getD i (.is undef)).holds v w
theorem vbV_mono (l : List VB) : ∀ i v w w', Fr (fun _ => False) w w' → vbV l i v w → vbV l i v w' := by
  intro i v w w' f h
  unfold vbV at *
  cases hx : l.getD i (.is undef) with
  | is u => rw [hx] at h; exact h
  | «by» x =>
    rw [hx] at h
    exact Sees.fr h f (fun _ _ h => h)

abbrev oSm2 (s : Sm) (v : Value) : Obj := Obj.cells #[.int .u8 s.kind, .int .u16 s.c.t, .int .u16 s.c.n, .int .u16 s.c.p, v, .int .u16 s.mb] 27 (0, 0)

set_option maxHeartbeats 16000000 in
theorem back_law (s t : Sm) (sa : Option Addr) (sc : Nat) (ta : Option Addr) (tc : Nat) (M : List UInt8) (ma : Option Addr) (mc : Nat) (w : World) (hs : SeesO w (s.sl sa sc) s.c.l) (hso : s.ok) (ht : SeesO w (t.sl ta tc) t.c.l) (hto : t.ok) (hM : Sees w (.slice ma M.length mc) M) :
    Calls Try.prog 3 #[smV s (s.sl sa sc), smV t (t.sl ta tc), .slice ma M.length mc] w fun e w' => e = .returned (.bool true) ∧ Fr (fun _ => False) w w' := by
  obtain ⟨i0, hi, hy0, hy1, hy2⟩ := info_parts Try.infoU8
  have HS0 := Lib.hid hs
  have HT0 := Lib.hid ht
  have HSO := Lib.hid hso
  have HTO := Lib.hid hto
  have HM := Lib.hid hM
  clear hs ht hso hto hM
  have q1 := new_two w (oSm2 s (s.sl sa sc)) (oSm2 t (t.sl ta tc))
  have f1 : Fr (fun _ => False) w ((w.alloc (oSm2 s (s.sl sa sc))).alloc (oSm2 t (t.sl ta tc))) := ((Fr.refl _ _).alloc _).alloc _
  have q0 : ((w.alloc (oSm2 s (s.sl sa sc))).alloc (oSm2 t (t.sl ta tc))).heap[w.heap.size]? = some (oSm2 s (s.sl sa sc)) := crow_kept (heap_alloc_new w _) ((Fr.refl (fun _ => False) _).alloc _) (fun h => h)
  go_enter Try.func3, Try.ntmps3
  go_upto_region 1 with fail
  generalize (w.alloc (oSm2 s (s.sl sa sc))).alloc (oSm2 t (t.sl ta tc)) = w0 at *
  generalize hg0 : w.heap.size = gs at *
  generalize hg1 : gs + 1 = gt at *
  have HG0 : Hid (w.heap.size = gs) := Lib.hid hg0
  clear hg0 hg1
  have Q0 := Lib.hid (And.intro q0 q1)
  have F0 := Lib.hid f1
  clear q0 q1 f1
  go_wp2_with fail
  refine (vtawake_any w0).mono ?_
  rintro e w1 ⟨rfl, f1⟩
  have Q1 := Lib.hid (And.intro (crow_kept Q0.out.1 f1 (fun h => h)) (crow_kept Q0.out.2 f1 (fun h => h)))
  have F1 := Lib.hid (F0.out.trans f1 (fun _ _ h => h))
  clear f1 Q0 F0
  dsimp only
  obtain ⟨c00, c01, c02, c03, c04, c05⟩ := sm_cells Q1.out.1
  obtain ⟨d00, d01, d02, d03, d04, d05⟩ := sm_cells Q1.out.2
  by_cases hl1 : s.c.l.length ≤ 100
  case neg =>
    have hl' : (100 : Int) < (s.c.l.length : Int) := by omega
    clear hl1
    go_wp2_with fail
    go_ret
    exact ⟨rfl, F1.out⟩
  have hl1' : ¬ (100 : Int) < (s.c.l.length : Int) := by omega
  by_cases hl2 : t.c.l.length ≤ 100
  case neg =>
    have hl' : (100 : Int) < (t.c.l.length : Int) := by omega
    clear hl2
    go_wp2_with fail
    go_ret
    exact ⟨rfl, F1.out⟩
  have hl2' : ¬ (100 : Int) < (t.c.l.length : Int) := by omega
  by_cases hl3 : M.length ≤ 20
  case neg =>
    have hl' : (20 : Int) < (M.length : Int) := by omega
    clear hl3
    go_wp2_with fail
    go_ret
    exact ⟨rfl, F1.out⟩
  have hl3' : ¬ (20 : Int) < (M.length : Int) := by omega
  have SS : Hid (SmAt w.heap.size w s (s.sl sa sc)) := Lib.hid ⟨⟨_, _, rfl⟩, HS0.out.1, HS0.out.2, HSO.out, by omega⟩
  have ST : Hid (SmAt w.heap.size w t (t.sl ta tc)) := Lib.hid ⟨⟨_, _, rfl⟩, HT0.out.1, HT0.out.2, HTO.out, by omega⟩
  have OKS := Lib.hid (sm_ok HSO.out (by omega))
  have OKT := Lib.hid (sm_ok HTO.out (by omega))
  have HL3 := Lib.hid hl3
  clear HS0 HT0 HSO HTO hl1 hl2 hl3
  go_upto_region 5 with fail
  clear c00 c01 c02 c03 c04 c05 d00 d01 d02 d03 d04 d05 hl1' hl2' hl3'
  have hdif5 : PDif 1 3 99 4 5 := ⟨by decide, by decide, by decide, by decide, by decide, by decide, by decide, by decide, by decide, by decide⟩
  refine wp_region_links (by kernel_rfl) [some 31, some 32, some 33, some 34, some 7, some 8, none, none] rfl (by decide) (by intro d hd; simp at hd ⊢; omega)
    (fun st wx => (PS (seenE s.en) (seenE t.en) (seenE En.zero) 36 36 zeroE6 zeroE6 1 3 99 4 5 6 7 w1) st wx)
    [.free (smV s (s.sl sa sc)), .link none, .free (smV t (t.sl ta tc)), .link none, .link none, .link none, .link none, .link none]
    (by kernel_rfl) ?h05 ?step5 ?fin5
  case h05 => exact PA.ps ⟨(Fr.refl _ _).drew, fun v h => (by cases h), fun v h => (by cases h), fun v h => (by cases h), fun v h => (by cases h), fun v h => (by cases h), fun v h => (by cases h)⟩ rfl rfl
  case step5 =>
    intro vals
    simp only [frOfU, fillU, List.setIfInBounds_toArray, List.set_cons_succ, List.set_cons_zero]
    repeat' (first | exact AllOps.nil | refine AllOps.cons ?_ ?_)
    all_goals
      intro st wx hS he hu hn Kc hK
      simp only [Act.put, List.setIfInBounds_toArray, List.set_cons_succ, List.set_cons_zero, List.getD_cons_zero, List.getD_cons_succ] at hK
      simp only [List.mem_cons, List.not_mem_nil, or_false, forall_eq_or_imp, forall_eq, Region.binds, forall_const, pmode_gc, Bool.false_eq_true, false_imp_iff, List.getD_cons_zero, List.getD_cons_succ, OpSort.val, OpSort.isLink, Option.some.injEq, forall_eq', reduceCtorEq, implies_true, true_and, and_true] at he
      obtain ⟨c00, c01, c02, c03, c04, c05⟩ := sm_cells (crow_kept Q1.out.1 hS.fr (fun h => h))
      obtain ⟨k00, k01, k02, k03, k04, k05⟩ := sm_cells (crow_kept Q1.out.2 hS.fr (fun h => h))
      have HSX := Lib.hid hS
      clear hS
    all_goals first | (clear hu hn; (try simp only [he] at hK ⊢); go_simp; exact hK) | skip
    · have hs1 := (hu 6 (by simp) (by kernel_rfl)).2
      have hs2 := (hu 7 (by simp) (by kernel_rfl)).2
      have ha := Lib.hid (HSX.out.a hs1 hs2)
      clear hu hn
      simp only [he] at hK ⊢
      go_simp
      go_at_call 9
      refine (sentryS w.heap.size s (s.sl sa sc) wx (SS.out.keep (F1.out.trans ha.out.fr (fun _ _ h => h)) (fun _ h => h.elim))).mono ?_
      rintro er wa ⟨v', u', rfl, he', fra, haw, _⟩
      have ht : (seenE s.en).sh (fun k => k < w1.heap.size ∨ wx.heap.size ≤ k) wa (s.en.val v' u') := (seenE s.en).mono (fun k _ h => h.imp (fun h => Nat.lt_of_lt_of_le h F1.out.size) id) (seenE_of (wx := wx) he' haw)
      exact hK _ _ (fun _ h => by cases h) (PA.ps (ha.out.call1 hdif5 fra ht) hs1 hs2)
    · have hs1 := (hu 6 (by simp) (by kernel_rfl)).2
      have hs2 := (hu 7 (by simp) (by kernel_rfl)).2
      have ha := Lib.hid (HSX.out.a hs1 hs2)
      clear hu hn
      simp only [he] at hK ⊢
      go_simp
      go_at_call 9
      refine (sentryS w.heap.size t (t.sl ta tc) wx (ST.out.keep (F1.out.trans ha.out.fr (fun _ _ h => h)) (fun _ h => h.elim))).mono ?_
      rintro er wa ⟨v', u', rfl, he', fra, haw, _⟩
      have ht : (seenE t.en).sh (fun k => k < w1.heap.size ∨ wx.heap.size ≤ k) wa (t.en.val v' u') := (seenE t.en).mono (fun k _ h => h.imp (fun h => Nat.lt_of_lt_of_le h F1.out.size) id) (seenE_of (wx := wx) he' haw)
      exact hK _ _ (fun _ h => by cases h) (PA.ps (ha.out.call2 hdif5 fra ht) hs1 hs2)
    · have hs1 := (hu 6 (by simp) (by kernel_rfl)).2
      have hs2 := (hu 7 (by simp) (by kernel_rfl)).2
      have ha := Lib.hid (HSX.out.a hs1 hs2)
      clear hu hn
      go_simp
      exact hK _ _ (fun _ h => by cases h) (PA.ps (ha.out.alloc1 hdif5) hs1 hs2)
    · have hs1 := (hu 6 (by simp) (by kernel_rfl)).2
      have hs2 := (hu 7 (by simp) (by kernel_rfl)).2
      have ha := Lib.hid (HSX.out.a hs1 hs2)
      clear hu hn
      go_simp
      exact hK _ _ (fun _ h => by cases h) (PA.ps (ha.out.alloc2 hdif5) hs1 hs2)
    · have hs2 := (hu 7 (by simp) (by kernel_rfl)).2
      have ha := Lib.hid (HSX.out.a hn hs2)
      have sa : st 4 = some (vals 4) := by first | exact he | exact he.1 | exact he.2 | exact he.2.1 | exact he.2.2 | exact he.2.2.1 | exact he.2.2.2 | exact he.2.2.2.1 | exact he.2.2.2.2 | exact he.2.2.2.2.1 | exact he.2.2.2.2.2 | exact he.2.2.2.2.2.1 | exact he.2.2.2.2.2.2 | exact he.2.2.2.2.2.2.1 | exact he.2.2.2.2.2.2.2 | exact he.2.2.2.2.2.2.2.1 | exact he.2.2.2.2.2.2.2.2 | exact he.2.2.2.2.2.2.2.2.1 | exact he.2.2.2.2.2.2.2.2.2 | exact he.2.2.2.2.2.2.2.2.2.1 | exact he.2.2.2.2.2.2.2.2.2.2 | exact he.2.2.2.2.2.2.2.2.2.2.1 | exact he.2.2.2.2.2.2.2.2.2.2.2 | exact he.2.2.2.2.2.2.2.2.2.2.2.1 | exact he.2.2.2.2.2.2.2.2.2.2.2.2 | exact he.2.2.2.2.2.2.2.2.2.2.2.2.1 | exact he.2.2.2.2.2.2.2.2.2.2.2.2.2 | exact he.2.2.2.2.2.2.2.2.2.2.2.2.2.1 | exact he.2.2.2.2.2.2.2.2.2.2.2.2.2.2
      have sb : st 5 = some (vals 5) := by first | exact he | exact he.1 | exact he.2 | exact he.2.1 | exact he.2.2 | exact he.2.2.1 | exact he.2.2.2 | exact he.2.2.2.1 | exact he.2.2.2.2 | exact he.2.2.2.2.1 | exact he.2.2.2.2.2 | exact he.2.2.2.2.2.1 | exact he.2.2.2.2.2.2 | exact he.2.2.2.2.2.2.1 | exact he.2.2.2.2.2.2.2 | exact he.2.2.2.2.2.2.2.1 | exact he.2.2.2.2.2.2.2.2 | exact he.2.2.2.2.2.2.2.2.1 | exact he.2.2.2.2.2.2.2.2.2 | exact he.2.2.2.2.2.2.2.2.2.1 | exact he.2.2.2.2.2.2.2.2.2.2 | exact he.2.2.2.2.2.2.2.2.2.2.1 | exact he.2.2.2.2.2.2.2.2.2.2.2 | exact he.2.2.2.2.2.2.2.2.2.2.2.1 | exact he.2.2.2.2.2.2.2.2.2.2.2.2 | exact he.2.2.2.2.2.2.2.2.2.2.2.2.1 | exact he.2.2.2.2.2.2.2.2.2.2.2.2.2 | exact he.2.2.2.2.2.2.2.2.2.2.2.2.2.1 | exact he.2.2.2.2.2.2.2.2.2.2.2.2.2.2
      have sc : st 1 = some (vals 1) := by first | exact he | exact he.1 | exact he.2 | exact he.2.1 | exact he.2.2 | exact he.2.2.1 | exact he.2.2.2 | exact he.2.2.2.1 | exact he.2.2.2.2 | exact he.2.2.2.2.1 | exact he.2.2.2.2.2 | exact he.2.2.2.2.2.1 | exact he.2.2.2.2.2.2 | exact he.2.2.2.2.2.2.1 | exact he.2.2.2.2.2.2.2 | exact he.2.2.2.2.2.2.2.1 | exact he.2.2.2.2.2.2.2.2 | exact he.2.2.2.2.2.2.2.2.1 | exact he.2.2.2.2.2.2.2.2.2 | exact he.2.2.2.2.2.2.2.2.2.1 | exact he.2.2.2.2.2.2.2.2.2.2 | exact he.2.2.2.2.2.2.2.2.2.2.1 | exact he.2.2.2.2.2.2.2.2.2.2.2 | exact he.2.2.2.2.2.2.2.2.2.2.2.1 | exact he.2.2.2.2.2.2.2.2.2.2.2.2 | exact he.2.2.2.2.2.2.2.2.2.2.2.2.1 | exact he.2.2.2.2.2.2.2.2.2.2.2.2.2 | exact he.2.2.2.2.2.2.2.2.2.2.2.2.2.1 | exact he.2.2.2.2.2.2.2.2.2.2.2.2.2.2
      have sd : st 3 = some (vals 3) := by first | exact he | exact he.1 | exact he.2 | exact he.2.1 | exact he.2.2 | exact he.2.2.1 | exact he.2.2.2 | exact he.2.2.2.1 | exact he.2.2.2.2 | exact he.2.2.2.2.1 | exact he.2.2.2.2.2 | exact he.2.2.2.2.2.1 | exact he.2.2.2.2.2.2 | exact he.2.2.2.2.2.2.1 | exact he.2.2.2.2.2.2.2 | exact he.2.2.2.2.2.2.2.1 | exact he.2.2.2.2.2.2.2.2 | exact he.2.2.2.2.2.2.2.2.1 | exact he.2.2.2.2.2.2.2.2.2 | exact he.2.2.2.2.2.2.2.2.2.1 | exact he.2.2.2.2.2.2.2.2.2.2 | exact he.2.2.2.2.2.2.2.2.2.2.1 | exact he.2.2.2.2.2.2.2.2.2.2.2 | exact he.2.2.2.2.2.2.2.2.2.2.2.1 | exact he.2.2.2.2.2.2.2.2.2.2.2.2 | exact he.2.2.2.2.2.2.2.2.2.2.2.2.1 | exact he.2.2.2.2.2.2.2.2.2.2.2.2.2 | exact he.2.2.2.2.2.2.2.2.2.2.2.2.2.1 | exact he.2.2.2.2.2.2.2.2.2.2.2.2.2.2
      obtain ⟨g1, e1, hg1, hc1⟩ := ha.out.p1 _ sa
      obtain ⟨g2, e2, hg2, hc2⟩ := ha.out.p2 _ sb
      obtain ⟨xk, xt, xn, xp, xa, xm, xc, xa', xm', xc', el⟩ := seenE_lit (ha.out.c1 _ sc)
      have HH := Lib.hid (And.intro sc (And.intro sd (And.intro (e1 ▸ sa) (And.intro (e2 ▸ sb) (And.intro el hc1)))))
      have z0 : wx.frozen? ⟨g1, 0, none⟩ = false := by simp [World.frozen?, hc1]
      have z1 : wx.frozen? ⟨g1, 1, none⟩ = false := by simp [World.frozen?, hc1]
      have z2 : wx.frozen? ⟨g1, 2, none⟩ = false := by simp [World.frozen?, hc1]
      have z3 : wx.frozen? ⟨g1, 3, none⟩ = false := by simp [World.frozen?, hc1]
      have z4 : wx.frozen? ⟨g1, 4, none⟩ = false := by simp [World.frozen?, hc1]
      have z5 : wx.frozen? ⟨g1, 5, none⟩ = false := by simp [World.frozen?, hc1]
      have d0 := qrow hc1 0 _ rfl
      have d1 := qrow hc1 1 _ rfl
      have d2 := qrow hc1 2 _ rfl
      have d3 := qrow hc1 3 _ rfl
      have d4 := qrow hc1 4 _ rfl
      have d5 := qrow hc1 5 _ rfl
      simp only [zeroE6, List.getElem_toArray, List.getElem_cons_succ, List.getElem_cons_zero] at d0 d1 d2 d3 d4 d5
      unfold pptr at e1
      clear hu hn hc1 hc2 sa sb sc sd e2 he c00 c01 c02 c03 c04 c05 k00 k01 k02 k03 k04 k05
      simp only [e1, el] at hK ⊢
      go_simp
      exact hK undef _ (fun _ h => by cases h) (PA.store1 ha.out HH.out.1 HH.out.2.1 HH.out.2.2.1 HH.out.2.2.2.1 (by decide) hs2 (by decide) (by decide) (by decide) HH.out.2.2.2.2.1 (cst6 HH.out.2.2.2.2.2) (cfr6 _ _ _ _ _ _ (Fr.refl _ _) (fun _ => rfl)))
    · have sb : st 5 = some (vals 5) := by first | exact he | exact he.1 | exact he.2 | exact he.2.1 | exact he.2.2 | exact he.2.2.1 | exact he.2.2.2 | exact he.2.2.2.1 | exact he.2.2.2.2 | exact he.2.2.2.2.1 | exact he.2.2.2.2.2 | exact he.2.2.2.2.2.1 | exact he.2.2.2.2.2.2 | exact he.2.2.2.2.2.2.1 | exact he.2.2.2.2.2.2.2 | exact he.2.2.2.2.2.2.2.1 | exact he.2.2.2.2.2.2.2.2 | exact he.2.2.2.2.2.2.2.2.1 | exact he.2.2.2.2.2.2.2.2.2 | exact he.2.2.2.2.2.2.2.2.2.1 | exact he.2.2.2.2.2.2.2.2.2.2 | exact he.2.2.2.2.2.2.2.2.2.2.1 | exact he.2.2.2.2.2.2.2.2.2.2.2 | exact he.2.2.2.2.2.2.2.2.2.2.2.1 | exact he.2.2.2.2.2.2.2.2.2.2.2.2 | exact he.2.2.2.2.2.2.2.2.2.2.2.2.1 | exact he.2.2.2.2.2.2.2.2.2.2.2.2.2 | exact he.2.2.2.2.2.2.2.2.2.2.2.2.2.1 | exact he.2.2.2.2.2.2.2.2.2.2.2.2.2.2
      have sd : st 3 = some (vals 3) := by first | exact he | exact he.1 | exact he.2 | exact he.2.1 | exact he.2.2 | exact he.2.2.1 | exact he.2.2.2 | exact he.2.2.2.1 | exact he.2.2.2.2 | exact he.2.2.2.2.1 | exact he.2.2.2.2.2 | exact he.2.2.2.2.2.1 | exact he.2.2.2.2.2.2 | exact he.2.2.2.2.2.2.1 | exact he.2.2.2.2.2.2.2 | exact he.2.2.2.2.2.2.2.1 | exact he.2.2.2.2.2.2.2.2 | exact he.2.2.2.2.2.2.2.2.1 | exact he.2.2.2.2.2.2.2.2.2 | exact he.2.2.2.2.2.2.2.2.2.1 | exact he.2.2.2.2.2.2.2.2.2.2 | exact he.2.2.2.2.2.2.2.2.2.2.1 | exact he.2.2.2.2.2.2.2.2.2.2.2 | exact he.2.2.2.2.2.2.2.2.2.2.2.1 | exact he.2.2.2.2.2.2.2.2.2.2.2.2 | exact he.2.2.2.2.2.2.2.2.2.2.2.2.1 | exact he.2.2.2.2.2.2.2.2.2.2.2.2.2 | exact he.2.2.2.2.2.2.2.2.2.2.2.2.2.1 | exact he.2.2.2.2.2.2.2.2.2.2.2.2.2.2
      have ss : st 6 = some (vals 6) := by first | exact he | exact he.1 | exact he.2 | exact he.2.1 | exact he.2.2 | exact he.2.2.1 | exact he.2.2.2 | exact he.2.2.2.1 | exact he.2.2.2.2 | exact he.2.2.2.2.1 | exact he.2.2.2.2.2 | exact he.2.2.2.2.2.1 | exact he.2.2.2.2.2.2 | exact he.2.2.2.2.2.2.1 | exact he.2.2.2.2.2.2.2 | exact he.2.2.2.2.2.2.2.1 | exact he.2.2.2.2.2.2.2.2 | exact he.2.2.2.2.2.2.2.2.1 | exact he.2.2.2.2.2.2.2.2.2 | exact he.2.2.2.2.2.2.2.2.2.1 | exact he.2.2.2.2.2.2.2.2.2.2 | exact he.2.2.2.2.2.2.2.2.2.2.1 | exact he.2.2.2.2.2.2.2.2.2.2.2 | exact he.2.2.2.2.2.2.2.2.2.2.2.1 | exact he.2.2.2.2.2.2.2.2.2.2.2.2 | exact he.2.2.2.2.2.2.2.2.2.2.2.2.1 | exact he.2.2.2.2.2.2.2.2.2.2.2.2.2 | exact he.2.2.2.2.2.2.2.2.2.2.2.2.2.1 | exact he.2.2.2.2.2.2.2.2.2.2.2.2.2.2
      have hb := Lib.hid (HSX.out.b ss hn)
      obtain ⟨g1, g2, v2, ea, eb, e2', hf, hne, hg1, hg2, hX, hc2, hY⟩ := hb.out
      have e2 : vals 5 = pptr g2 := Option.some.inj (sb.symm.trans eb)
      have ev : vals 3 = v2 := Option.some.inj (sd.symm.trans e2')
      obtain ⟨xk, xt, xn, xp, xa, xm, xc, xa', xm', xc', el⟩ := seenE_lit hY
      have HH := Lib.hid (And.intro (ev ▸ sd) (And.intro (e2 ▸ sb) (And.intro el hc2)))
      have z0 : wx.frozen? ⟨g2, 0, none⟩ = false := by simp [World.frozen?, hc2]
      have z1 : wx.frozen? ⟨g2, 1, none⟩ = false := by simp [World.frozen?, hc2]
      have z2 : wx.frozen? ⟨g2, 2, none⟩ = false := by simp [World.frozen?, hc2]
      have z3 : wx.frozen? ⟨g2, 3, none⟩ = false := by simp [World.frozen?, hc2]
      have z4 : wx.frozen? ⟨g2, 4, none⟩ = false := by simp [World.frozen?, hc2]
      have z5 : wx.frozen? ⟨g2, 5, none⟩ = false := by simp [World.frozen?, hc2]
      have d0 := qrow hc2 0 _ rfl
      have d1 := qrow hc2 1 _ rfl
      have d2 := qrow hc2 2 _ rfl
      have d3 := qrow hc2 3 _ rfl
      have d4 := qrow hc2 4 _ rfl
      have d5 := qrow hc2 5 _ rfl
      simp only [zeroE6, List.getElem_toArray, List.getElem_cons_succ, List.getElem_cons_zero] at d0 d1 d2 d3 d4 d5
      rw [el] at ev
      unfold pptr at e2
      clear hu hn hc2 sb sd ss ea eb e2' hX hY hf el he c00 c01 c02 c03 c04 c05 k00 k01 k02 k03 k04 k05
      simp only [e2, ev] at hK ⊢
      go_simp
      exact hK undef _ (fun _ h => by cases h) (PB.store2 hb.out (HH.out.2.2.1 ▸ HH.out.1) HH.out.2.1 (by decide) (by decide) (by decide) rfl (cst6 HH.out.2.2.2) (cfr6 _ _ _ _ _ _ (Fr.refl _ _) (fun _ => rfl)))
  case fin5 =>
    intro vals w5 hS hV
    have v0 := hV 0 _ (by decide) rfl
    have v2 := hV 2 _ (by decide) rfl
    have h2 : ∃ g1 g2 v2, some (vals 4) = some (pptr g1) ∧ some (vals 5) = some (pptr g2) ∧ some (vals 3) = some v2 ∧ PIn (seenE s.en) (seenE t.en) 36 36 w1 g1 g2 w5 := hS
    obtain ⟨tb, ub, _, e4, e5, _, fo, hne, htb, hub, ⟨cs1, hc1, hx1⟩, ⟨cs2, hc2, hx2⟩⟩ := h2
    have x4 := Option.some.inj e4
    have x5 := Option.some.inj e5
    clear hS hV e4 e5
    unfold pptr at x4 x5
    simp only [frOfU, fillU, List.setIfInBounds_toArray, List.set_cons_succ, List.set_cons_zero]
    simp only [Nat.reduceAdd, x4, x5]
    clear x4 x5 hdif5 v0 v2 SS ST
    obtain ⟨v5, u5, e1, he5, _, _⟩ := hx1
    obtain ⟨v6, u6, e2, he6, _, _⟩ := hx2
    cases e1
    cases e2
    generalize s.en = X at *
    generalize t.en = Y at *
    have F5 := Lib.hid (F1.out.trans fo (fun _ _ h => h))
    have H5 := Lib.hid (And.intro (show w5.heap[tb]? = some (X.obj v5 u5) from hc1) (show w5.heap[ub]? = some (Y.obj v6 u6) from hc2))
    have ES5 := Lib.hid (And.intro he5 he6)
    have HTB := Lib.hid hne
    clear fo hne htb hub hc1 hc2 he5 he6 Q1 F1
    go_upto_region 7 with fail
    have wr6 := wr_new w5
    have f6 : Fr (fun _ => False) w5 (w5.alloc (.cells #[.slice none 0 0] 40)) := (Fr.refl _ _).alloc _
    generalize w5.alloc (.cells #[.slice none 0 0] 40) = w6 at *
    obtain ⟨gw, hgw⟩ : ∃ g, g = w5.heap.size := ⟨_, rfl⟩
    rw [← hgw] at wr6 ⊢
    have hoff1 : X.l = [] ∨ OffW gw nilS v5 := by
      by_cases hl : X.l = []
      · exact .inl hl
      · exact .inr ⟨fun e => by have := sees_old ES5.out.1.1 hl gw e; omega, fun k _ e => by cases e⟩
    have hoff2 : X.m = [] ∨ OffW gw nilS u5 := by
      by_cases hl : X.m = []
      · exact .inl hl
      · exact .inr ⟨fun e => by have := si_old ES5.out.1.2 hl gw e; omega, fun k _ e => by cases e⟩
    have HGW : Hid (gw = w5.heap.size) := Lib.hid hgw
    have HPUT := Lib.hid (vput_any X v5 u5 gw nilS [] w6 OKS.out (ES5.out.1.fr f6) wr6 (by simp) hoff1 hoff2)
    obtain ⟨c00, c01, c02, c03, c04, c05⟩ := en_cells (crow_kept H5.out.1 f6 (fun h => h))
    have F6 := Lib.hid f6
    clear f6 wr6 hgw hoff1 hoff2
    go_wp2_with fail
    refine HPUT.out.mono ?_
    rintro e w7 ⟨rfl, v7, wr7, f7, o7⟩
    have f57 : Fr (fun _ => False) w5 w7 := F6.out.trans f7 (fun k hk e => by
      rcases e with e | e
      · have := HGW.out; omega
      · cases e)
    obtain ⟨BB, hBB⟩ : ∃ L, L = entB X := ⟨_, rfl⟩
    rw [List.nil_append, ← hBB] at wr7
    have HBB := Lib.hid hBB
    have HLB : Hid (BB.length ≤ 5000) := Lib.hid (by rw [hBB]; exact entB_length OKS.out)
    have HW7 := Lib.hid wr7
    have F57 := Lib.hid f57
    have F7 := Lib.hid (F5.out.trans f57 (fun _ _ h => h))
    clear wr7 f7 o7 f57 hBB HPUT F6 c00 c01 c02 c03 c04 c05
    dsimp only
    go_wp2_with fail
    refine (bytes_any gw v7 BB w7 HW7.out (by have := HLB.out; omega)).mono ?_
    rintro e w8 ⟨y8, rfl, o8, f8, k8⟩
    obtain ⟨ba, bc, hy8, _⟩ := o8.sees.shape
    subst hy8
    have HO8 := Lib.hid o8
    have HF8 := Lib.hid f8
    have HK8 := Lib.hid k8
    have hm8 := Lib.hid (HM.out.fr (F7.out.trans f8 (fun _ _ h => h)) (fun _ _ h => h))
    clear o8 f8 k8
    dsimp only
    go_wp2_with (at_builtin; refine wpList_append_sep rfl (.tmp 41) (.tmp 42) 23 23 rfl 0 5 i0 (.int .u8 0) 1 1 Try.underlying23 _ Try.underlying23 (.inr ⟨_, rfl⟩) hi hy0 hy1 hy2 rfl (by decide) (.slice ba BB.length bc) _ _ rfl HO8.out _ M.length (M.map bv) rfl (lenOf_slice _ _ _) (by simp) hm8.out.first (hm8.out.drew).first (bv_one _) ?b3 ?b4 (Nat.zero_le _) ?grow2)
    case b3 => have := HLB.out; have := HL3.out; unfold maxLen; omega
    case b4 => have := HLB.out; have := HL3.out; omega
    case grow2 =>
    intro y9 w9 ho hg hv
    have ho9 : Own w9 y9 (BB ++ M) := by unfold Own; rw [List.length_append, List.map_append]; exact ho
    have f9 : Fr (fun _ => False) w7 w9 := HF8.out.trans (Fr.of_grown hg) (fun i hi e => by have := HK8.out i e.symm; omega)
    have H9 := Lib.hid ho9
    have HF9 := Lib.hid f9
    clear ho hg hv ho9 f9
    go_wp2_with fail
    refine (read_any y9 (BB ++ M) w9 H9.out.sees (by have := HLB.out; have := HL3.out; rw [List.length_append]; omega)).mono ?_
    rintro e w10 ⟨gr, x10, rfl, r10, f10, hgr, hx10⟩
    have HF10 := Lib.hid (HF9.out.trans f10 (fun _ _ h => h))
    have hgr7 : w7.heap.size ≤ gr := by have := HF9.out.size; omega
    rw [HBB.out] at r10
    have HTK := Lib.hid (vtake_any gr x10 X M w10 OKS.out r10)
    clear f10 r10 hgr hx10 H9 HO8 HF8 HK8 hm8
    dsimp only
    go_wp2_with fail
    refine HTK.out.mono ?_
    rintro e w11 ⟨v11, u11, rfl, he11, x11, r11, f11, o11⟩
    obtain ⟨a11, k11, hv11, _⟩ := he11.1.shape
    obtain ⟨b11, d11, hu11, _⟩ := he11.2.shape
    subst hv11 hu11
    have f12 : Fr (fun _ => False) w11 (w11.alloc (X.obj (.slice a11 X.l.length k11) (.slice b11 X.m.length d11))) := (Fr.refl _ _).alloc _
    have q12 := heap_alloc_new w11 (X.obj (.slice a11 X.l.length k11) (.slice b11 X.m.length d11))
    have f712 : Fr (fun _ => False) w7 (w11.alloc (X.obj (.slice a11 X.l.length k11) (.slice b11 X.m.length d11))) := (HF10.out.trans f11 (fun k hk e => by omega)).trans f12 (fun _ _ h => h)
    have hes12 := he11.fr f12
    have hr12 := r11.fr f12 (fun h => h) (fun _ _ h => h)
    dsimp only
    go_upto_region 10 with fail
    generalize w11.alloc (X.obj (.slice a11 X.l.length k11) (.slice b11 X.m.length d11)) = w12 at *
    obtain ⟨gz, hgz⟩ : ∃ g, g = w11.heap.size := ⟨_, rfl⟩
    rw [← hgz] at q12 ⊢
    have f512 := F57.out.trans f712 (fun _ _ h => h)
    have Q12 := Lib.hid (And.intro (crow_kept H5.out.1 f512 (fun h => h)) (And.intro (crow_kept H5.out.2 f512 (fun h => h)) q12))
    have E12 := Lib.hid (And.intro (ES5.out.1.fr f512) (And.intro (ES5.out.2.fr f512) hes12))
    have W12 := Lib.hid (HW7.out.fr f712 (fun h => h) (fun _ _ h => h))
    have R12 := Lib.hid hr12
    have F12 := Lib.hid (F7.out.trans f712 (fun _ _ h => h))
    clear he11 r11 f11 o11 f12 q12 f712 hes12 hr12 hgz f512 H5 ES5 HW7 F57 F7 HF9 HF10 HTK hgr7 F5
    generalize (Value.slice a11 X.l.length k11) = v11 at *
    generalize (Value.slice b11 X.m.length d11) = u11 at *
    obtain ⟨SX, hSX⟩ : ∃ s : ByteArray, s = ⟨(entB X).toArray⟩ := ⟨_, rfl⟩
    obtain ⟨SY, hSY⟩ : ∃ s : ByteArray, s = ⟨(entB Y).toArray⟩ := ⟨_, rfl⟩
    obtain ⟨B, hB⟩ : ∃ B, B = X.same Y := ⟨_, rfl⟩
    have hEQ : (SX.toList == SY.toList) = B := by
      rw [hSX, hSY, hB, ctxt_beq]
      by_cases hb : entB X = entB Y
      · rw [decide_eq_true hb, entB_inj OKS.out OKT.out hb, En.same_refl]
      · rw [decide_eq_false hb]
        cases hx : X.same Y with
        | false => rfl
        | true => exact absurd (by rw [(En.same_iff X Y).1 hx]) hb
    have HEQ := Lib.hid hEQ
    have HSXY := Lib.hid (And.intro (And.intro hSX hSY) hB)
    have HCV : Hid (∀ W (v : Value) (l : List UInt8), Sees W v l → ∀ S : ByteArray, S = ⟨l.toArray⟩ → (convert 23 9 v).run Try.prog W = .ok (.string S) W) := Lib.hid (fun W v l h S e => by
      rw [e]
      exact h.string _ _ _ Try.underlying23 Try.underlying5 Try.underlying9)
    clear hEQ hSX hSY hB
    refine wp_region_told (by kernel_rfl) (fun a b => Fr (fun _ => False) a b) (fun w => Fr.refl _ w) (fun _ _ _ h k => h.trans k (fun _ _ h => h)) [47, 48, 49, 50, 51, 52, 53, 54, 55, 56, 57, 58, 59, 60, 61, 62, 63, 64, 65, 66, 67, 68, 69, 70, 71, 72, 73, 74, 75, 76, 77, 78, 79, 80, 81, 82, 83, 84, 85, 86, 87, 88, 6] rfl (by decide) (by intro d hd; simp at hd ⊢; omega)
      (vbV [.is (X.val v5 u5), .is (.int .i64 0), .is (.bool true), .is (.bool true), .is (.pointer (some ⟨gw, 0, none⟩)), .by (entB X), .is (.string SX), .is (X.val v5 u5), .by (entB X), .is (.string SX), .is (.bool true), .is (.bool true), .is (.bool true), .is (X.val v5 u5), .is (X.val v11 u11), .is (.bool true), .is (.bool true), .is (.bool true), .is (.pointer (some ⟨gr, 0, none⟩)), .is (.int .i64 0), .is (.bool true), .is (.bool true), .is (.bool true), .is (.pointer (some ⟨gr, 0, none⟩)), .is (.int .i64 M.length), .is (.slice ma M.length mc), .is (.int .i64 M.length), .is (.bool true), .is (.bool true), .is (.bool true), .is (X.val v5 u5), .is (Y.val v6 u6), .is (.bool B), .is (X.val v5 u5), .by (entB X), .is (.string SX), .is (Y.val v6 u6), .by (entB Y), .is (.string SY), .is (.bool B), .is (.bool true), .is (.bool true), .is (.bool true)])
      (vbV_mono _) (by kernel_rfl) ?step10 ?fin10
    case step10 =>
      intro vals
      simp only [frOf, fill, List.setIfInBounds_toArray, List.set_cons_succ, List.set_cons_zero]
      repeat' (first | exact AllOps.nil | refine AllOps.cons ?_ ?_)
      all_goals
        intro wx hle he K' hK
        simp only [Act.put, List.setIfInBounds_toArray, List.set_cons_succ, List.set_cons_zero, vbV, VB.holds, List.getD_cons_zero, List.getD_cons_succ] at hK
        simp only [List.mem_cons, List.not_mem_nil, or_false, forall_eq_or_imp, forall_eq, Region.binds, forall_const, false_imp_iff, vbV, VB.holds, List.getD_cons_zero, List.getD_cons_succ] at he
        have hl5 := Fr.trans (Fr.drew (Fr.refl (fun _ => False) w12)) hle (fun _ _ h => h)
        have hl8 := Lib.hid hl5
        obtain ⟨c00, c01, c02, c03, c04, c05⟩ := en_cells (crow_kept Q12.out.1 hl5 (fun h => h))
        obtain ⟨d00, d01, d02, d03, d04, d05⟩ := en_cells (crow_kept Q12.out.2.1 hl5 (fun h => h))
        obtain ⟨k00, k01, k02, k03, k04, k05⟩ := en_cells (crow_kept Q12.out.2.2 hl5 (fun h => h))
        have HEX := Lib.hid (E12.out.1.fr hl5)
        have HEY := Lib.hid (E12.out.2.1.fr hl5)
        have HEZ := Lib.hid (E12.out.2.2.fr hl5)
        have HWX := Lib.hid (W12.out.fr hl5 (fun h => h) (fun _ _ h => h))
        have HRX := Lib.hid (R12.out.fr hl5 (fun h => h) (fun _ _ h => h))
        have heq := HEQ.out
        clear hl5 hle
      all_goals first
        | (simp only [he] at hK ⊢; clear he; go_simp; exact hK _ _ (Fr.refl _ _) rfl)
        | (clear he; go_simp; exact hK _ _ (Fr.refl _ _) rfl)
        | skip
      · (try simp only [he] at hK ⊢)
        clear he
        go_simp
        go_at_call 14
        refine (vcheck_any X v5 u5 wx HEX.out (by have := OKS.out.m1; omega) OKS.out.k0 (by have := OKS.out.k1; omega)).mono ?_
        rintro er wa ⟨rfl, fa⟩
        exact hK _ _ fa (by rw [OKS.out.ck])
      · (try simp only [he] at hK ⊢)
        clear he
        go_simp
        go_at_call 12
        refine (bytes_any gw v7 BB wx HWX.out (by have := HLB.out; omega)).mono ?_
        rintro er wa ⟨va, rfl, oa, fa, _⟩
        exact hK _ _ fa (by rw [← HBB.out]; exact oa.sees)
      · have hsees : Sees wx (vals 5) (entB X) := by first | exact he | exact he.1 | exact he.2.1 | exact he.2.2.1 | exact he.2
        have hcv := HCV.out wx (vals 5) (entB X) hsees SX HSXY.out.1.1
        have hcv2 := Lib.hid hcv
        (try simp only [he] at hK ⊢)
        clear hsees he
        go_simp
        exact hK _ _ (Fr.refl _ _) rfl
      · (try simp only [he] at hK ⊢)
        clear he
        go_simp
        go_at_call 15
        refine (vbytes_any X v5 u5 wx OKS.out HEX.out).mono ?_
        rintro er wa ⟨va, rfl, ma⟩
        exact hK _ _ ma.2.1 ma.1.sees
      · have hsees : Sees wx (vals 8) (entB X) := by first | exact he | exact he.1 | exact he.2.1 | exact he.2.2.1 | exact he.2
        have hcv := HCV.out wx (vals 8) (entB X) hsees SX HSXY.out.1.1
        have hcv2 := Lib.hid hcv
        (try simp only [he] at hK ⊢)
        clear hsees he
        go_simp
        exact hK _ _ (Fr.refl _ _) rfl
      · (try simp only [he] at hK ⊢)
        clear he
        go_simp
        go_at_call 16
        refine (vsame_any X X v5 u5 v11 u11 wx HEX.out HEZ.out (by have := OKS.out.m1; omega)).mono ?_
        rintro er wa ⟨rfl, fa⟩
        exact hK _ _ fa (by rw [En.same_refl])
      · (try simp only [he] at hK ⊢)
        clear he
        go_simp
        go_at_call 17
        refine (err_any gr x11 M 0 wx HRX.out).mono ?_
        rintro er wa ⟨rfl, rfl⟩
        exact hK _ _ (Fr.refl _ _) rfl
      · (try simp only [he] at hK ⊢)
        clear he
        go_simp
        go_at_call 18
        refine (left_any gr x11 M 0 wx HRX.out).mono ?_
        rintro er wa ⟨rfl, rfl⟩
        exact hK _ _ (Fr.refl _ _) rfl
      · (try simp only [he] at hK ⊢)
        clear he
        go_simp
        go_at_call 16
        refine (vsame_any X Y v5 u5 v6 u6 wx HEX.out HEY.out (by have := OKS.out.m1; omega)).mono ?_
        rintro er wa ⟨rfl, fa⟩
        exact hK _ _ fa (by rw [HSXY.out.2])
      · (try simp only [he] at hK ⊢)
        clear he
        go_simp
        go_at_call 15
        refine (vbytes_any X v5 u5 wx OKS.out HEX.out).mono ?_
        rintro er wa ⟨va, rfl, ma⟩
        exact hK _ _ ma.2.1 ma.1.sees
      · have hsees : Sees wx (vals 34) (entB X) := by first | exact he | exact he.1 | exact he.2.1 | exact he.2.2.1 | exact he.2
        have hcv := HCV.out wx (vals 34) (entB X) hsees SX HSXY.out.1.1
        have hcv2 := Lib.hid hcv
        (try simp only [he] at hK ⊢)
        clear hsees he
        go_simp
        exact hK _ _ (Fr.refl _ _) rfl
      · (try simp only [he] at hK ⊢)
        clear he
        go_simp
        go_at_call 15
        refine (vbytes_any Y v6 u6 wx OKT.out HEY.out).mono ?_
        rintro er wa ⟨va, rfl, ma⟩
        exact hK _ _ ma.2.1 ma.1.sees
      · have hsees : Sees wx (vals 37) (entB Y) := by first | exact he | exact he.1 | exact he.2.1 | exact he.2.2.1 | exact he.2
        have hcv := HCV.out wx (vals 37) (entB Y) hsees SY HSXY.out.1.2
        have hcv2 := Lib.hid hcv
        (try simp only [he] at hK ⊢)
        clear hsees he
        go_simp
        exact hK _ _ (Fr.refl _ _) rfl
    case fin10 =>
      intro vals' w' hle hV
      have h9 : vals' 42 = .bool true := hV 42 (by decide)
      clear hV
      have hfin := Lib.hid (F12.out.trans (Fr.trans (Fr.drew (Fr.refl (fun _ => False) w12)) hle (fun _ _ h => h)) (fun _ _ h => h))
      clear hle
      simp only [frOf, fill, List.setIfInBounds_toArray, List.set_cons_succ, List.set_cons_zero, Nat.reduceAdd]
      simp only [h9]
      clear h9
      go_wp2_with fail
      go_ret
      exact ⟨rfl, hfin.out⟩

/-- The law at its arguments. -/
theorem back_all {w : World} (s : Sm) (v : Value) (hs : SmV w s v) (t : Sm) (u : Value) (ht : SmV w t u) (mv : Value) (la : List Int) (ha : SeesL w mv (la.map (Value.int .u8))) (fa : ∀ n ∈ la, (Lit.int .u8 n).wf = true) :
    Calls Try.prog 3 #[v, u, mv] w fun e w' => e = .returned (.bool true) ∧ Fr (fun _ => False) w w' := by
  obtain ⟨a, c, rfl, hs, hso⟩ := hs
  obtain ⟨b, d, rfl, ht, hto⟩ := ht
  have hm := (seesO_u8 ha fa).1
  obtain ⟨a2, c2, e, _⟩ := hm.shape
  subst e
  exact back_law s t a c b d _ a2 c2 w hs hso ht hto hm
