/-
  PlayPlays, part 8 of what it rests on: ValFlat2, ValSum, ValNoneMath, PlayPlay, RegionL, Pair, PlayFlat, PlayAny, PlayMain, PlaySt, KindSmallArg.
-/
import Derived.Test.YtohfejpjjjaejaaSg
import Derived.LoopN
import Derived.Defers
import Derived.Recover
import Derived.Laws.StructEq
set_option linter.unusedVariables false
set_option linter.unusedSimpArgs false
set_option maxHeartbeats 32000000
namespace Go.Proofs.Ytohfejpjjjaejaa
open Go.RowKit
open Go.Lib (hid)
section
attribute [local go_sem] run_store_float

def partsF (g : Nat -> List Int) (j : Nat) : List Int := ((List.range j).map g).flatten

theorem partsF_succ (g : Nat -> List Int) (j : Nat) : partsF g (j + 1) = partsF g j ++ g j := by
 unfold partsF; rw [List.range_succ, List.map_append, List.flatten_append]; simp

theorem partsF_split (g : Nat -> List Int) (j c : Nat) (h : j <= c) : ∃ r, partsF g c = partsF g j ++ r := by
 induction c with
 | zero =>
      obtain rfl : j = 0 := by omega
      exact ⟨[], by simp⟩
 | succ c ih =>
  by_cases e : j = c + 1
  ·subst e; exact ⟨[], by simp⟩
  ·obtain ⟨r, hr⟩ := ih (by omega)
   exact ⟨r ++ g c, by rw [partsF_succ, hr, List.append_assoc]⟩

theorem partsF_len (g : Nat -> List Int) (b : Nat -> Nat) (h : ∀ i, (g i).length <= 2 * b i) (j : Nat) : (partsF g j).length <= 2 * ((List.range j).map b).sum := by
 induction j with
 | zero => simp [partsF]
 | succ j ih =>
  rw [partsF_succ, List.length_append, List.range_succ, List.map_append, List.sum_append]
  have := h j
  simp only [List.map_cons, List.map_nil, List.sum_cons, List.sum_nil, Nat.add_zero]
  omega

theorem fold_full (m : Int) (l : List Int) : ∀ acc, m <= (acc.length : Int) -> l.foldl (addE m) acc = acc := by
 induction l with
 | nil => intro acc _; rfl
 | cons x l ih =>
  intro acc h
  rw [List.foldl_cons, show addE m acc x = acc by unfold addE; rw [if_pos h]]
  exact ih acc h

theorem addE_len (m : Int) (acc : List Int) (x : Int) : (addE m acc x).length <= acc.length + 1 := by
 unfold addE
 split
 ·omega
 ·simp

theorem fold_len (m : Int) (l : List Int) : ∀ acc, (l.foldl (addE m) acc).length <= acc.length + l.length := by
 induction l with
 | nil => intro acc; simp
 | cons x l ih =>
  intro acc
  rw [List.foldl_cons]
  have := ih (addE m acc x)
  have := addE_len m acc x
  simp only [List.length_cons]
  omega

theorem fl_len (t : KT) : ∀ T, (flE t T).length <= 2 * szV T := by
 induction t with
 | nil => intro T; simp [flE]
 | mk k m ns n of ih =>
  intro T
  cases T with
  | nil => simp [flE]
  | mk N f s c ov =>
   rw [flE, szV]
   split
   ·simp; omega
   split
   ·simp; omega
   rw [List.length_append, List.length_append]
   have h := partsF_len (fun i => flE (of (if k = 6 then i else if k = 8 then N.toNat else 0)) (ov i)) (fun i => szV (ov i)) (fun i => ih _ _) c
   unfold partsF at h
   have h1 : (if k = 5 then [(c : Int)] else []).length + (if k < 3 \/ 6 < k then [N] else []).length <= 1 := by
    split <;> split <;> simp <;> omega
   omega

theorem own_lt {w : World} {B : Nat} {e : TypeId} {size : Nat} {v : Value} {n : Nat} {xs : List Value} (h : w.ownsRow B e size v n xs) : ∀ k, v.ownBlock = some k -> k < w.heap.size := by
 intro k hk
 rcases h.2 with ⟨rfl, _⟩ | ⟨g, cap, cur, rfl, _, hg, _⟩
 ·simp [Value.ownBlock] at hk
 ·have e : g = k := by simpa [Value.ownBlock] using hk
  subst e
  exact (Array.getElem?_eq_some_iff.1 hg).1

def FlIn (B fb : Nat) (w1 : World) (m : Int) (nv nv' : Value) (acc : List Int) (wx : World) : Prop :=
 FlSt B fb wx m nv' acc /\ Fr (fun k => k = fb \/ nv.ownBlock = some k) w1 wx /\ (nv'.ownBlock = nv.ownBlock \/ ∃ g, nv'.ownBlock = some g /\ w1.heap.size <= g)

theorem FlIn.quiet {B fb : Nat} {w1 wx wy : World} {m : Int} {nv nv' : Value} {acc : List Int} (h : FlIn B fb w1 m nv nv' acc wx) (f : Fr (fun _ => False) wx wy) : FlIn B fb w1 m nv nv' acc wy :=
 ⟨h.1.fr f (fun h => h) fid2, h.2.1.trans f (fun _ _ h => h.elim), h.2.2⟩

theorem FlIn.next {B fb : Nat} {w1 wx wy : World} {m : Int} {nv nv' nv'' : Value} {acc acc' : List Int} (h : FlIn B fb w1 m nv nv' acc wx) (h1 : FlSt B fb wy m nv'' acc') (f : Fr (fun k => k = fb \/ nv'.ownBlock = some k) wx wy)
  (ho : nv''.ownBlock = nv'.ownBlock \/ ∃ g, nv''.ownBlock = some g /\ wx.heap.size <= g) : FlIn B fb w1 m nv nv'' acc' wy := by
 refine ⟨h1, h.2.1.trans f (fun i hi e => ?_), ?_⟩
 ·rcases e with e | e
  ·exact .inl e
  ·rcases h.2.2 with h2 | ⟨g, h2, hg⟩
   ·exact .inr (by rw [<- h2]; exact e)
   ·rw [h2] at e
    have := Option.some.inj e
    omega
 ·rcases ho with h3 | ⟨g, h3, hg⟩
  ·rw [h3]; exact h.2.2
  ·exact .inr ⟨g, h3, Nat.le_trans h.2.1.size hg⟩

theorem FlIn.off {B fb : Nat} {w1 wx : World} {m : Int} {nv nv' : Value} {acc : List Int} (h : FlIn B fb w1 m nv nv' acc wx) {k : Nat} (hk : k < w1.heap.size) (h1 : k ≠ fb) (h2 : nv.ownBlock ≠ some k) : nv'.ownBlock ≠ some k := by
 intro e
 rcases h.2.2 with h3 | ⟨g, h3, hg⟩
 ·exact h2 (by rw [<- h3]; exact e)
 ·rw [h3] at e
  have := Option.some.inj e
  omega

def FlS (B fb : Nat) (w1 : World) (m : Int) (nv nv' : Value) (acc acc2 : List Int) : List Value -> World -> Prop
 | [], wx => FlIn B fb w1 m nv nv' acc wx
 | _ :: _, wx => ∃ nv2, FlIn B fb w1 m nv nv2 acc2 wx

theorem FlS.fr {B fb : Nat} {w1 wx : World} {m : Int} {nv nv' : Value} {acc acc2 : List Int} {l : List Value} (h : FlS B fb w1 m nv nv' acc acc2 l wx) : Fr (fun k => k = fb \/ nv.ownBlock = some k) w1 wx := by
 match l with
 | [] => exact h.2.1
 | _ :: _ => obtain ⟨_, h⟩ := h; exact h.2.1

theorem fits_seq {m : Int} {ns : List Txt} {n : Nat} {of : Nat -> KT} {N : Int} {f : Nat} {s : Txt} {c : Nat} {ov : Nat -> VT} (h : fitsE (.mk 5 m ns n of) (.mk N f s c ov) = true) : n = 1 /\ ∀ i, i < c -> fitsE (of 0) (ov i) = true := by
 rw [fitsE, if_neg (by omega), if_neg (by omega), if_neg (by omega), if_neg (by omega), if_neg (by omega), if_neg (by omega), if_pos rfl] at h
 simp only [Bool.and_eq_true, decide_eq_true_eq, List.all_eq_true, List.mem_range] at h
 exact ⟨h.1.2.1, h.1.2.2⟩

theorem fits_rec {m : Int} {ns : List Txt} {n : Nat} {of : Nat -> KT} {N : Int} {f : Nat} {s : Txt} {c : Nat} {ov : Nat -> VT} (h : fitsE (.mk 6 m ns n of) (.mk N f s c ov) = true) : c = n /\ ∀ i, i < c -> fitsE (of i) (ov i) = true := by
 rw [fitsE, if_neg (by omega), if_neg (by omega), if_neg (by omega), if_neg (by omega), if_neg (by omega), if_neg (by omega), if_neg (by omega), if_pos rfl] at h
 simp only [Bool.and_eq_true, decide_eq_true_eq, List.all_eq_true, List.mem_range] at h
 exact ⟨h.1.1, h.1.2⟩

theorem fits_cho {m : Int} {ns : List Txt} {n : Nat} {of : Nat -> KT} {N : Int} {f : Nat} {s : Txt} {c : Nat} {ov : Nat -> VT} (h : fitsE (.mk 8 m ns n of) (.mk N f s c ov) = true) : (0 <= N /\ N <= (n : Int) - 1) /\ c = 1 /\ fitsE (of N.toNat) (ov 0) = true := by
 rw [fitsE, if_neg (by omega), if_neg (by omega), if_neg (by omega), if_neg (by omega), if_neg (by omega), if_neg (by omega), if_neg (by omega), if_neg (by omega), if_pos rfl] at h
 simp only [Bool.and_eq_true, decide_eq_true_eq] at h
 exact h.1

theorem sum_le_at (b : Nat -> Nat) (j c : Nat) (h : j < c) : ((List.range j).map b).sum + b j <= ((List.range c).map b).sum := by
 induction c with
 | zero => omega
 | succ c ih =>
  rw [List.range_succ, List.map_append, List.sum_append]
  simp only [List.map_cons, List.map_nil, List.sum_cons, List.sum_nil, Nat.add_zero]
  by_cases e : j = c
  ·subst e; exact Nat.le_refl _
  ·have := ih (by omega)
   omega

set_option maxRecDepth 100000 in
theorem flat_k5 (k : Nat) (m' : Int) (ns : List Txt) (n : Nat) (of : Nat -> KT) (ih : ∀ i, FlatAt (of i)) (hk0 : k = 5) : FlatAt (.mk k m' ns n of) := by
 intro R0 v vv w T B fb m nv acc hsh0 hvs0 hfit hst hR0 hlen hB
 obtain ⟨R, hRd⟩ : ∃ R : Nat -> Prop, R = fun k => R0 k /\ k < w.heap.size := ⟨_, rfl⟩
 have hR : ∀ k, R k -> k ≠ fb /\ nv.ownBlock ≠ some k := by rw [hRd]; exact fun k h => hR0 k h.1
 have hRw : ∀ k, R k -> k < w.heap.size := by rw [hRd]; exact fun k h => h.2
 have hsh : Shows R w _ v := Shows.mono (fun k hk h => by rw [hRd]; exact ⟨h, hk⟩) _ _ hsh0
 have hvs : VShows R w T vv := VShows.mono (fun k hk h => by rw [hRd]; exact ⟨h, hk⟩) _ _ hvs0
 clear hsh0 hvs0 hR0 hRd
 obtain ⟨N, f, s, c, ov, va, cap, rfl, rfl, hVB, hVK⟩ := vshows_open hvs
 obtain ⟨vn, vo, rfl, hk, hn, ht, ho⟩ := hsh
 obtain ⟨na, nc, rfl, _⟩ := ht.shape
 obtain ⟨a', c', rfl, hs⟩ : ∃ a' c', vo = .slice a' n c' /\ Kids R w of a' n c' := by
  rcases ho with ⟨rfl, a', c', rfl⟩ | ⟨g, off, cap, hg, rfl, hle, hc⟩
  ·exact ⟨a', c', rfl, .inl rfl⟩
  ·exact ⟨_, cap, rfl, .inr ⟨hle, g, off, hg, rfl, hc⟩⟩
 obtain ⟨hN0, hN1, hf64, hsl, hc5⟩ := hVB
 have hnl : n <= 1000 := hn
 subst hk0
 obtain ⟨hn1, hfk⟩ := fits_seq hfit
 have HE : Hid ((flE (.mk 5 m' ns n of) (.mk N f s c ov)).foldl (addE m) acc = (partsF (fun i => flE (of 0) (ov i)) c).foldl (addE m) (addE m acc (c : Int))) := hid (by rw [flE, if_neg (by omega), if_neg (by omega), if_pos rfl, if_neg (by omega)]; rfl)
 have HCN := hid hn1; clear hn1
 have HST := hid hst
 have hsum : ∀ j, j < c -> 2 * ((List.range j).map fun i => szV (ov i)).sum + 2 * szV (ov j) + 2 <= 2 * szV (.mk N f s c ov) := by
  intro j hj
  have h := sum_le_at (fun i => szV (ov i)) j c hj
  rw [szV]
  omega
 have HLEN := hid (And.intro hlen hsum)
 have HFK := hid hfk
 have HS := hid hs
 have HVK := hid hVK
 have HR := hid (And.intro hR hRw)
 have HOWN := hid (own_lt hst.2.1)
 have HBW := hid hB
 have hfbl : fb < w.heap.size := lt_of_block hst.1
 unfold sv
 obtain ⟨kz, hkz⟩ : ∃ kz : Int, ((5 : Nat) : Int) = kz := ⟨_, rfl⟩
 rw [hkz]
 have e0 : (kz == 0) = false := by simp; omega
 have e1 : (kz == 1) = false := by simp; omega
 have e2 : (kz == 2) = false := by simp; omega
 have e7 : (kz == 7) = false := by simp; omega
 have e3 : (kz == 3) = false := by simp; omega
 have e4 : (kz == 4) = false := by simp; omega
 have e5 : (kz == 5) = true := by simp; omega
 have e6 : (kz == 6) = false := by simp; omega
 have e8 : (kz == 8) = false := by simp; omega
 obtain ⟨w1, hw1⟩ : ∃ w1, w1 = (w.alloc (.cells #[.int .u8 kz, .int .i64 m', .slice na ns.length nc, .slice a' n c'] 36)).alloc (.cells #[.int .i64 N, .float .f64 f, .string ⟨s.toArray⟩, .slice va c cap] 44) := ⟨_, rfl⟩
 have f1 : Fr (fun _ => False) w w1 := by rw [hw1]; exact ((Fr.refl _ _).alloc _).alloc _
 have q1 : w1.heap[w.heap.size]? = some (.cells #[.int .u8 kz, .int .i64 m', .slice na ns.length nc, .slice a' n c'] 36 (0, 0)) := by rw [hw1]; exact heap_alloc_first _ _ _
 have v1 : w1.heap[w.heap.size + 1]? = some (.cells #[.int .i64 N, .float .f64 f, .string ⟨s.toArray⟩, .slice va c cap] 44 (0, 0)) := by rw [hw1]; exact heap_alloc_two _ _ _
 have hst1 := hst.fr f1 (fun h => h) fid2
 have HSZ1 := hid f1.size
 clear hst hlen hB hvs hVK hs ho hk hn ht hfit hfk hR hRw hsum hkz
 go_enter Try.func36, Try.ntmps36
 go_upto_region 1 with fail
 rw [<- hw1]
 clear hw1
 obtain ⟨vb, hvb⟩ : ∃ vb, w.heap.size + 1 = vb := ⟨_, rfl⟩
 rw [hvb] at v1 ⊢
 obtain ⟨tb, htb⟩ : ∃ tb, w.heap.size = tb := ⟨_, rfl⟩
 rw [htb] at q1 hfbl hvb ⊢
 have hvbl : vb < w1.heap.size := lt_of_block v1
 obtain ⟨c0, c1, c2, c3⟩ := cell_of_four q1
 obtain ⟨d0, d1, d2, d3⟩ := cell_of_four v1
 have H1 := hid (And.intro f1 (And.intro q1 (And.intro v1 (And.intro htb (And.intro hvb (And.intro hfbl hvbl))))))
 have HOFF : Hid (∀ k, k = tb \/ k = vb -> k ≠ fb /\ nv.ownBlock ≠ some k) := hid (by
  intro k hk
  refine ⟨by omega, fun e => ?_⟩
  have := HOWN.out k e
  omega)
 clear f1 q1 v1 htb hvb hfbl hvbl
 have hadd := add_any B fb m nv acc (c : Int) w1 hst1 (by have := HLEN.out.1; omega) (Nat.le_trans HBW.out HSZ1.out)
 clear hst1
 go_wp2_with fail
 refine hadd.mono ?_
 rintro e w2 ⟨rfl, nv1, hst2, f2, hv2⟩
 have H2 : Hid (FlIn B fb w1 m nv nv1 (addE m acc (c : Int)) w2) := hid ⟨hst2, f2, hv2⟩
 clear hadd hst2 f2 hv2 c0 c1 c2 c3 d0 d1 d2 d3
 go_wp2
 go_loopg [6] c (fun G u6 wr => ∃ (j : Nat) (nv' : Value), j <= c /\ G = c - j /\ u6 = .int .i64 j /\ Hid (FlIn B fb w1 m nv nv' ((partsF (fun i => flE (of (0)) (ov i)) j).foldl (addE m) (addE m acc (c : Int))) wr))
 case atStart => exact ⟨0, nv1, Nat.zero_le _, rfl, by go_num, H2⟩
 case round =>
  obtain ⟨j, nv', hj, rfl, rfl, HI⟩ := hrel
  have hoffv : ¬ (vb = fb \/ nv.ownBlock = some vb) := fun h => by have hh := HOFF.out vb (.inr rfl); rcases h with h | h; exact hh.1 h; exact hh.2 h
  have d3 := cells_row (box_kept H1.out.2.2.1 HI.out.2.1 hoffv) 3 _ rfl
  have hend : ∀ (wz : World), FlIn B fb w1 m nv nv' ((partsF (fun i => flE (of (0)) (ov i)) j).foldl (addE m) (addE m acc (c : Int))) wz -> ((partsF (fun i => flE (of (0)) (ov i)) j).foldl (addE m) (addE m acc (c : Int)) = (partsF (fun i => flE (of 0) (ov i)) c).foldl (addE m) (addE m acc (c : Int))) -> ∃ nv2, FlSt B fb wz m nv2 ((flE (.mk 5 m' ns n of) (.mk N f s c ov)).foldl (addE m) acc) /\ Fr (fun k => k = fb \/ nv.ownBlock = some k) w wz /\ (nv2.ownBlock = nv.ownBlock \/ ∃ g, nv2.ownBlock = some g /\ w.heap.size <= g) := by
   intro wz h e
   refine ⟨nv', ?_, (H1.out.1.mono (fun _ _ h => h.elim)).trans h.2.1 fid2, ?_⟩
   ·rw [HE.out, <- e]; exact h.1
   ·rcases h.2.2 with h | ⟨g, h, hg⟩
    ·exact .inl h
    ·exact .inr ⟨g, h, Nat.le_trans HSZ1.out hg⟩
  have HEND := hid hend
  clear hend hoffv
  by_cases hlt : j < c
  ·have hfull := full_any B fb m nv' _ wr HI.out.1
   have jc : (j : Int) < (c : Int) := by omega
   by_cases hm : m <= ((((partsF (fun i => flE (of (0)) (ov i)) j).foldl (addE m) (addE m acc (c : Int))).length : Nat) : Int)
   ·rw [decide_eq_true hm] at hfull
    have HM := hid hm
    clear hm
    go_wp2_with fail
    refine hfull.mono ?_
    rintro e w3 ⟨rfl, f3⟩
    have F3 := hid f3
    clear f3 hfull d3
    go_wp2
    go_returns
    refine ⟨rfl, HEND.out _ (HI.out.quiet F3.out) ?_⟩
    obtain ⟨r, hr⟩ := partsF_split (fun i => flE (of (0)) (ov i)) j c hj
    rw [hr, List.foldl_append, fold_full m r _ HM.out]
   ·rw [decide_eq_false hm] at hfull
    clear hm
    have HLT := hid hlt
    rcases HS.out with hz | ⟨hcap, g, off, hg, rfl, hcell⟩
    ·(try have := HCN.out); omega
    rcases HVK.out with hz | ⟨hvcap, gv, ov', hgv, rfl, hvcell⟩
    ·omega
    obtain ⟨x0, x1, x2, x3, y0, y1, y2, y3, hx⟩ := hcell 0 (by have := HCN.out; omega)
    obtain ⟨s0, s1, s2, s3, r0, r1, r2, r3, hsv⟩ := hvcell j (hlt)
    obtain ⟨xk, xm, xa, xn, xc, xa', xn', xc', rfl, rfl, rfl, rfl⟩ := hx.cells
    obtain ⟨zn, zf, zs, za, zc, zcap, es⟩ := hsv.lit
    simp only [Value.agg.injEq, Array.mk.injEq, List.cons.injEq, and_true] at es
    obtain ⟨rfl, rfl, rfl, rfl⟩ := es
    simp only [Nat.zero_mul, Nat.add_zero] at y0 y1 y2 y3
    have HY := hid (And.intro hg (And.intro y0 (And.intro y1 (And.intro y2 y3))))
    have HZ := hid (And.intro hgv (And.intro r0 (And.intro r1 (And.intro r2 r3))))
    have HX := hid (And.intro hx hsv)
    clear hcell hvcell hx hsv y0 y1 y2 y3 r0 r1 r2 r3
    have jn : 0 < n := by have := HCN.out; omega
    go_wp2_with fail
    refine hfull.mono ?_
    rintro e w3 ⟨rfl, f3⟩
    have H3 : Hid (FlIn B fb w1 m nv nv' ((partsF (fun i => flE (of (0)) (ov i)) j).foldl (addE m) (addE m acc (c : Int))) w3) := hid (HI.out.quiet f3)
    clear f3 hfull d3
    go_upto_region 16 with fail
    refine wp_region_chain (by kernel_rfl) [some 52, some 53, some 54, some 55, some 56, some 57, some 58, some 59, some 60, some 61, some 62] rfl (by decide) (by intro d hd; simp at hd ⊢; omega)
     [10] (FlS B fb w1 m nv nv' ((partsF (fun i => flE (of (0)) (ov i)) j).foldl (addE m) (addE m acc (c : Int))) ((flE (of 0) (ov j)).foldl (addE m) ((partsF (fun i => flE (of (0)) (ov i)) j).foldl (addE m) (addE m acc (c : Int)))))
     [.free (.pointer (some ⟨fb, 0, none⟩)), .free (.pointer (some ⟨tb, 3, none⟩)), .free (.slice (some ⟨g, off, none⟩) n c'), .free (.pointer (some ⟨g, off, none⟩)), .free (.agg #[.int .u8 xk, .int .i64 xm, .slice xa xn xc, .slice xa' xn' xc']), .free (.pointer (some ⟨vb, 3, none⟩)), .free (.slice (some ⟨gv, ov', none⟩) c cap), .free (.int .i64 j), .free (.pointer (some ⟨gv, ov' + j * 4, none⟩)), .free (.agg #[.int .i64 zn, .float .f64 zf, .string zs, .slice za zc zcap]), .link (some (.tuple #[]))]
     (by kernel_rfl) (by kernel_rfl) ?h0 ?step ?fin
    case h0 => exact H3.out.quiet (Fr.refl _ _).drew
    case step =>
     intro vals2
     simp only [frOfU, fillU, zsl]
     repeat' (first | exact AllOps.nil | refine AllOps.cons ?_ ?_)
     all_goals
      intro cvs wx hS he hu hlim K hK
      simp only [Act.put, zsl, zgl] at hK
      simp only [zml, Region.binds, forall_const, vmode_gc, Bool.false_eq_true, false_imp_iff, zgl, OpSort.val, Option.some.injEq, forall_eq', reduceCtorEq, implies_true, true_and, and_true] at he
     all_goals first | (clear hS hlim hu; (try simp only [he] at hK ⊢); go_simp; exact hK) | skip
     ·have HSX := hid hS
      clear hS hlim hu
      have l3 := cells_row (box_kept H1.out.2.1 HSX.out.fr (fun h => by have hh := HOFF.out tb (.inl rfl); rcases h with h | h; exact hh.1 h; exact hh.2 h)) 3 _ rfl
      simp only [he] at hK ⊢
      go_simp
      exact hK
     ·have HSX := hid hS
      clear hS hlim hu
      have r0 := cell_fr HSX.out.fr (fun k hk h => by rcases h with h | h; exact (HR.out.1 k hk).1 h; exact (HR.out.1 k hk).2 h) HY.out.1 (cell_fr H1.out.1 fid2 HY.out.1 HY.out.2.1)
      have r1 := cell_fr HSX.out.fr (fun k hk h => by rcases h with h | h; exact (HR.out.1 k hk).1 h; exact (HR.out.1 k hk).2 h) HY.out.1 (cell_fr H1.out.1 fid2 HY.out.1 HY.out.2.2.1)
      have r2 := cell_fr HSX.out.fr (fun k hk h => by rcases h with h | h; exact (HR.out.1 k hk).1 h; exact (HR.out.1 k hk).2 h) HY.out.1 (cell_fr H1.out.1 fid2 HY.out.1 HY.out.2.2.2.1)
      have r3 := cell_fr HSX.out.fr (fun k hk h => by rcases h with h | h; exact (HR.out.1 k hk).1 h; exact (HR.out.1 k hk).2 h) HY.out.1 (cell_fr H1.out.1 fid2 HY.out.1 HY.out.2.2.2.2)
      simp only [he] at hK ⊢
      go_simp
      exact hK
     ·have HSX := hid hS
      clear hS hlim hu
      have l3 := cells_row (box_kept H1.out.2.2.1 HSX.out.fr (fun h => by have hh := HOFF.out vb (.inr rfl); rcases h with h | h; exact hh.1 h; exact hh.2 h)) 3 _ rfl
      simp only [he] at hK ⊢
      go_simp
      exact hK
     ·have HSX := hid hS
      clear hS hlim hu
      have r0 := cell_fr HSX.out.fr (fun k hk h => by rcases h with h | h; exact (HR.out.1 k hk).1 h; exact (HR.out.1 k hk).2 h) HZ.out.1 (cell_fr H1.out.1 fid2 HZ.out.1 HZ.out.2.1)
      have r1 := cell_fr HSX.out.fr (fun k hk h => by rcases h with h | h; exact (HR.out.1 k hk).1 h; exact (HR.out.1 k hk).2 h) HZ.out.1 (cell_fr H1.out.1 fid2 HZ.out.1 HZ.out.2.2.1)
      have r2 := cell_fr HSX.out.fr (fun k hk h => by rcases h with h | h; exact (HR.out.1 k hk).1 h; exact (HR.out.1 k hk).2 h) HZ.out.1 (cell_fr H1.out.1 fid2 HZ.out.1 HZ.out.2.2.2.1)
      have r3 := cell_fr HSX.out.fr (fun k hk h => by rcases h with h | h; exact (HR.out.1 k hk).1 h; exact (HR.out.1 k hk).2 h) HZ.out.1 (cell_fr H1.out.1 fid2 HZ.out.1 HZ.out.2.2.2.2)
      simp only [he] at hK ⊢
      go_simp
      exact hK
     ·obtain rfl := hlim (0 : Nat) rfl
      simp only [List.take_zero, List.map_nil] at hS
      have HSX : Hid (FlIn B fb w1 m nv nv' ((partsF (fun i => flE (of (0)) (ov i)) j).foldl (addE m) (addE m acc (c : Int))) wx) := hid hS
      clear hS hlim hu
      simp only [he] at hK ⊢
      go_simp
      go_at_call 36
      have hoff : ∀ k, R k -> ¬ (k = fb \/ nv.ownBlock = some k) := fun k hk h => by rcases h with h | h; exact (HR.out.1 k hk).1 h; exact (HR.out.1 k hk).2 h
      refine (ih 0 R _ _ wx (ov j) B fb m nv' ((partsF (fun i => flE (of (0)) (ov i)) j).foldl (addE m) (addE m acc (c : Int))) (Shows.fr HSX.out.2.1 hoff _ _ (Shows.fr H1.out.1 fid2 _ _ HX.out.1)) (VShows.fr HSX.out.2.1 hoff _ _ (VShows.fr H1.out.1 fid2 _ _ HX.out.2)) (HFK.out j HLT.out) HSX.out.1 (fun k hk => ⟨(HR.out.1 k hk).1, HSX.out.off (by have := HR.out.2 k hk; have := HSZ1.out; omega) (HR.out.1 k hk).1 (HR.out.1 k hk).2⟩) (by have h1 := HLEN.out.1; have h2 := HLEN.out.2 j HLT.out; have h3 := fold_len m (partsF (fun i => flE (of (0)) (ov i)) j) (addE m acc (c : Int)); have h4 := partsF_len (fun i => flE (of (0)) (ov i)) (fun i => szV (ov i)) (fun i => fl_len _ _) j; have h5 := addE_len m acc (c : Int); omega) (Nat.le_trans HBW.out (Nat.le_trans HSZ1.out HSX.out.2.1.size))).mono ?_
      rintro er wa ⟨rfl, nv2, hs2, fa, ho2⟩
      exact hK _ _ (fun _ h => by cases h; rfl) ⟨nv2, HSX.out.next hs2 fa ho2⟩

    case fin =>
     intro vals2 w4 hS hV
     clear hV
     obtain ⟨nv2, h4⟩ : ∃ nv2, FlIn B fb w1 m nv nv2 ((flE (of 0) (ov j)).foldl (addE m) ((partsF (fun i => flE (of (0)) (ov i)) j).foldl (addE m) (addE m acc (c : Int)))) w4 := hS
     have H4 : Hid (FlIn B fb w1 m nv nv2 ((partsF (fun i => flE (of (0)) (ov i)) (j + 1)).foldl (addE m) (addE m acc (c : Int))) w4) := hid (by rw [partsF_succ, List.foldl_append]; exact h4)
     clear h4
     simp only [frOfU, fillU, zsl]
     go_wp2
     go_roundg (c - (j + 1))
     case measure => have := HLT.out; omega
     case rel => exact ⟨j + 1, nv2, HLT.out, rfl, by go_num, H4⟩
  ·obtain rfl : j = c := by omega
   have jc : ¬ (j : Int) < (j : Int) := by omega
   go_wp2
   go_returns
   first | exact ⟨rfl, HEND.out _ HI.out rfl⟩ | exact ⟨rfl, HEND.out _ HI.out trivial⟩

set_option maxRecDepth 100000 in
theorem flat_k6 (k : Nat) (m' : Int) (ns : List Txt) (n : Nat) (of : Nat -> KT) (ih : ∀ i, FlatAt (of i)) (hk0 : k = 6) : FlatAt (.mk k m' ns n of) := by
 intro R0 v vv w T B fb m nv acc hsh0 hvs0 hfit hst hR0 hlen hB
 obtain ⟨R, hRd⟩ : ∃ R : Nat -> Prop, R = fun k => R0 k /\ k < w.heap.size := ⟨_, rfl⟩
 have hR : ∀ k, R k -> k ≠ fb /\ nv.ownBlock ≠ some k := by rw [hRd]; exact fun k h => hR0 k h.1
 have hRw : ∀ k, R k -> k < w.heap.size := by rw [hRd]; exact fun k h => h.2
 have hsh : Shows R w _ v := Shows.mono (fun k hk h => by rw [hRd]; exact ⟨h, hk⟩) _ _ hsh0
 have hvs : VShows R w T vv := VShows.mono (fun k hk h => by rw [hRd]; exact ⟨h, hk⟩) _ _ hvs0
 clear hsh0 hvs0 hR0 hRd
 obtain ⟨N, f, s, c, ov, va, cap, rfl, rfl, hVB, hVK⟩ := vshows_open hvs
 obtain ⟨vn, vo, rfl, hk, hn, ht, ho⟩ := hsh
 obtain ⟨na, nc, rfl, _⟩ := ht.shape
 obtain ⟨a', c', rfl, hs⟩ : ∃ a' c', vo = .slice a' n c' /\ Kids R w of a' n c' := by
  rcases ho with ⟨rfl, a', c', rfl⟩ | ⟨g, off, cap, hg, rfl, hle, hc⟩
  ·exact ⟨a', c', rfl, .inl rfl⟩
  ·exact ⟨_, cap, rfl, .inr ⟨hle, g, off, hg, rfl, hc⟩⟩
 obtain ⟨hN0, hN1, hf64, hsl, hc5⟩ := hVB
 have hnl : n <= 1000 := hn
 subst hk0
 obtain ⟨hcn, hfk⟩ := fits_rec hfit
 have HE : Hid ((flE (.mk 6 m' ns n of) (.mk N f s c ov)).foldl (addE m) acc = (partsF (fun i => flE (of i) (ov i)) c).foldl (addE m) acc) := hid (by rw [flE, if_neg (by omega), if_neg (by omega), if_neg (by omega), if_neg (by omega)]; rfl)
 have HCN := hid hcn; clear hcn
 have HST := hid hst
 have hsum : ∀ j, j < c -> 2 * ((List.range j).map fun i => szV (ov i)).sum + 2 * szV (ov j) + 2 <= 2 * szV (.mk N f s c ov) := by
  intro j hj
  have h := sum_le_at (fun i => szV (ov i)) j c hj
  rw [szV]
  omega
 have HLEN := hid (And.intro hlen hsum)
 have HFK := hid hfk
 have HS := hid hs
 have HVK := hid hVK
 have HR := hid (And.intro hR hRw)
 have HOWN := hid (own_lt hst.2.1)
 have HBW := hid hB
 have hfbl : fb < w.heap.size := lt_of_block hst.1
 unfold sv
 obtain ⟨kz, hkz⟩ : ∃ kz : Int, ((6 : Nat) : Int) = kz := ⟨_, rfl⟩
 rw [hkz]
 have e0 : (kz == 0) = false := by simp; omega
 have e1 : (kz == 1) = false := by simp; omega
 have e2 : (kz == 2) = false := by simp; omega
 have e7 : (kz == 7) = false := by simp; omega
 have e3 : (kz == 3) = false := by simp; omega
 have e4 : (kz == 4) = false := by simp; omega
 have e5 : (kz == 5) = false := by simp; omega
 have e6 : (kz == 6) = true := by simp; omega
 have e8 : (kz == 8) = false := by simp; omega
 obtain ⟨w1, hw1⟩ : ∃ w1, w1 = (w.alloc (.cells #[.int .u8 kz, .int .i64 m', .slice na ns.length nc, .slice a' n c'] 36)).alloc (.cells #[.int .i64 N, .float .f64 f, .string ⟨s.toArray⟩, .slice va c cap] 44) := ⟨_, rfl⟩
 have f1 : Fr (fun _ => False) w w1 := by rw [hw1]; exact ((Fr.refl _ _).alloc _).alloc _
 have q1 : w1.heap[w.heap.size]? = some (.cells #[.int .u8 kz, .int .i64 m', .slice na ns.length nc, .slice a' n c'] 36 (0, 0)) := by rw [hw1]; exact heap_alloc_first _ _ _
 have v1 : w1.heap[w.heap.size + 1]? = some (.cells #[.int .i64 N, .float .f64 f, .string ⟨s.toArray⟩, .slice va c cap] 44 (0, 0)) := by rw [hw1]; exact heap_alloc_two _ _ _
 have hst1 := hst.fr f1 (fun h => h) fid2
 have HSZ1 := hid f1.size
 clear hst hlen hB hvs hVK hs ho hk hn ht hfit hfk hR hRw hsum hkz
 go_enter Try.func36, Try.ntmps36
 go_upto_region 1 with fail
 rw [<- hw1]
 clear hw1
 obtain ⟨vb, hvb⟩ : ∃ vb, w.heap.size + 1 = vb := ⟨_, rfl⟩
 rw [hvb] at v1 ⊢
 obtain ⟨tb, htb⟩ : ∃ tb, w.heap.size = tb := ⟨_, rfl⟩
 rw [htb] at q1 hfbl hvb ⊢
 have hvbl : vb < w1.heap.size := lt_of_block v1
 obtain ⟨c0, c1, c2, c3⟩ := cell_of_four q1
 obtain ⟨d0, d1, d2, d3⟩ := cell_of_four v1
 have H1 := hid (And.intro f1 (And.intro q1 (And.intro v1 (And.intro htb (And.intro hvb (And.intro hfbl hvbl))))))
 have HOFF : Hid (∀ k, k = tb \/ k = vb -> k ≠ fb /\ nv.ownBlock ≠ some k) := hid (by
  intro k hk
  refine ⟨by omega, fun e => ?_⟩
  have := HOWN.out k e
  omega)
 clear f1 q1 v1 htb hvb hfbl hvbl
 have H2 : Hid (FlIn B fb w1 m nv nv acc w1) := hid ⟨hst1, Fr.refl _ _, .inl rfl⟩
 obtain ⟨nv1, hnv1⟩ : ∃ nv1, nv1 = nv := ⟨_, rfl⟩
 obtain ⟨w2, hw2⟩ : ∃ w2, w2 = w1 := ⟨_, rfl⟩
 rw [<- hw2]
 have H2 : Hid (FlIn B fb w1 m nv nv1 acc w2) := hid (by rw [hnv1, hw2]; exact H2.out)
 have c0 := c0
 rw [<- hw2] at c0
 clear hst1 hnv1 c1 c2 c3 d0 d1 d2 d3 hw2
 go_wp2
 go_loopg [7] c (fun G u7 wr => ∃ (j : Nat) (nv' : Value), j <= c /\ G = c - j /\ u7 = .int .i64 j /\ Hid (FlIn B fb w1 m nv nv' ((partsF (fun i => flE (of (i)) (ov i)) j).foldl (addE m) (acc)) wr))
 case atStart => exact ⟨0, nv1, Nat.zero_le _, rfl, by go_num, H2⟩
 case round =>
  obtain ⟨j, nv', hj, rfl, rfl, HI⟩ := hrel
  have hoffv : ¬ (vb = fb \/ nv.ownBlock = some vb) := fun h => by have hh := HOFF.out vb (.inr rfl); rcases h with h | h; exact hh.1 h; exact hh.2 h
  have d3 := cells_row (box_kept H1.out.2.2.1 HI.out.2.1 hoffv) 3 _ rfl
  have hend : ∀ (wz : World), FlIn B fb w1 m nv nv' ((partsF (fun i => flE (of (i)) (ov i)) j).foldl (addE m) (acc)) wz -> ((partsF (fun i => flE (of (i)) (ov i)) j).foldl (addE m) (acc) = (partsF (fun i => flE (of i) (ov i)) c).foldl (addE m) acc) -> ∃ nv2, FlSt B fb wz m nv2 ((flE (.mk 6 m' ns n of) (.mk N f s c ov)).foldl (addE m) acc) /\ Fr (fun k => k = fb \/ nv.ownBlock = some k) w wz /\ (nv2.ownBlock = nv.ownBlock \/ ∃ g, nv2.ownBlock = some g /\ w.heap.size <= g) := by
   intro wz h e
   refine ⟨nv', ?_, (H1.out.1.mono (fun _ _ h => h.elim)).trans h.2.1 fid2, ?_⟩
   ·rw [HE.out, <- e]; exact h.1
   ·rcases h.2.2 with h | ⟨g, h, hg⟩
    ·exact .inl h
    ·exact .inr ⟨g, h, Nat.le_trans HSZ1.out hg⟩
  have HEND := hid hend
  clear hend hoffv
  by_cases hlt : j < c
  ·have hfull := full_any B fb m nv' _ wr HI.out.1
   have jc : (j : Int) < (c : Int) := by omega
   by_cases hm : m <= ((((partsF (fun i => flE (of (i)) (ov i)) j).foldl (addE m) (acc)).length : Nat) : Int)
   ·rw [decide_eq_true hm] at hfull
    have HM := hid hm
    clear hm
    go_wp2_with fail
    refine hfull.mono ?_
    rintro e w3 ⟨rfl, f3⟩
    have F3 := hid f3
    clear f3 hfull d3
    go_wp2
    go_returns
    refine ⟨rfl, HEND.out _ (HI.out.quiet F3.out) ?_⟩
    obtain ⟨r, hr⟩ := partsF_split (fun i => flE (of (i)) (ov i)) j c hj
    rw [hr, List.foldl_append, fold_full m r _ HM.out]
   ·rw [decide_eq_false hm] at hfull
    clear hm
    have HLT := hid hlt
    rcases HS.out with hz | ⟨hcap, g, off, hg, rfl, hcell⟩
    ·(try have := HCN.out); omega
    rcases HVK.out with hz | ⟨hvcap, gv, ov', hgv, rfl, hvcell⟩
    ·omega
    obtain ⟨x0, x1, x2, x3, y0, y1, y2, y3, hx⟩ := hcell j (by have := HCN.out; omega)
    obtain ⟨s0, s1, s2, s3, r0, r1, r2, r3, hsv⟩ := hvcell j (hlt)
    obtain ⟨xk, xm, xa, xn, xc, xa', xn', xc', rfl, rfl, rfl, rfl⟩ := hx.cells
    obtain ⟨zn, zf, zs, za, zc, zcap, es⟩ := hsv.lit
    simp only [Value.agg.injEq, Array.mk.injEq, List.cons.injEq, and_true] at es
    obtain ⟨rfl, rfl, rfl, rfl⟩ := es
    have HY := hid (And.intro hg (And.intro y0 (And.intro y1 (And.intro y2 y3))))
    have HZ := hid (And.intro hgv (And.intro r0 (And.intro r1 (And.intro r2 r3))))
    have HX := hid (And.intro hx hsv)
    clear hcell hvcell hx hsv y0 y1 y2 y3 r0 r1 r2 r3
    have jn : (j : Int) < (n : Int) := by have := HCN.out; omega
    go_wp2_with fail
    refine hfull.mono ?_
    rintro e w3 ⟨rfl, f3⟩
    have H3 : Hid (FlIn B fb w1 m nv nv' ((partsF (fun i => flE (of (i)) (ov i)) j).foldl (addE m) (acc)) w3) := hid (HI.out.quiet f3)
    clear f3 hfull d3
    go_upto_region 21 with fail
    refine wp_region_chain (by kernel_rfl) [some 77, some 78, some 79, some 80, some 81, some 82, some 83, some 84, some 85, some 86, some 87, some 88] rfl (by decide) (by intro d hd; simp at hd ⊢; omega)
     [11] (FlS B fb w1 m nv nv' ((partsF (fun i => flE (of (i)) (ov i)) j).foldl (addE m) (acc)) ((flE (of j) (ov j)).foldl (addE m) ((partsF (fun i => flE (of (i)) (ov i)) j).foldl (addE m) (acc))))
     [.free (.pointer (some ⟨fb, 0, none⟩)), .free (.pointer (some ⟨tb, 3, none⟩)), .free (.slice (some ⟨g, off, none⟩) n c'), .free (.int .i64 j), .free (.pointer (some ⟨g, off + j * 4, none⟩)), .free (.agg #[.int .u8 xk, .int .i64 xm, .slice xa xn xc, .slice xa' xn' xc']), .free (.pointer (some ⟨vb, 3, none⟩)), .free (.slice (some ⟨gv, ov', none⟩) c cap), .free (.int .i64 j), .free (.pointer (some ⟨gv, ov' + j * 4, none⟩)), .free (.agg #[.int .i64 zn, .float .f64 zf, .string zs, .slice za zc zcap]), .link (some (.tuple #[]))]
     (by kernel_rfl) (by kernel_rfl) ?h0 ?step ?fin
    case h0 => exact H3.out.quiet (Fr.refl _ _).drew
    case step =>
     intro vals2
     simp only [frOfU, fillU, zsl]
     repeat' (first | exact AllOps.nil | refine AllOps.cons ?_ ?_)
     all_goals
      intro cvs wx hS he hu hlim K hK
      simp only [Act.put, zsl, zgl] at hK
      simp only [zml, Region.binds, forall_const, vmode_gc, Bool.false_eq_true, false_imp_iff, zgl, OpSort.val, Option.some.injEq, forall_eq', reduceCtorEq, implies_true, true_and, and_true] at he
     all_goals first | (clear hS hlim hu; (try simp only [he] at hK ⊢); go_simp; exact hK) | skip
     ·have HSX := hid hS
      clear hS hlim hu
      have l3 := cells_row (box_kept H1.out.2.1 HSX.out.fr (fun h => by have hh := HOFF.out tb (.inl rfl); rcases h with h | h; exact hh.1 h; exact hh.2 h)) 3 _ rfl
      simp only [he] at hK ⊢
      go_simp
      exact hK
     ·have HSX := hid hS
      clear hS hlim hu
      have r0 := cell_fr HSX.out.fr (fun k hk h => by rcases h with h | h; exact (HR.out.1 k hk).1 h; exact (HR.out.1 k hk).2 h) HY.out.1 (cell_fr H1.out.1 fid2 HY.out.1 HY.out.2.1)
      have r1 := cell_fr HSX.out.fr (fun k hk h => by rcases h with h | h; exact (HR.out.1 k hk).1 h; exact (HR.out.1 k hk).2 h) HY.out.1 (cell_fr H1.out.1 fid2 HY.out.1 HY.out.2.2.1)
      have r2 := cell_fr HSX.out.fr (fun k hk h => by rcases h with h | h; exact (HR.out.1 k hk).1 h; exact (HR.out.1 k hk).2 h) HY.out.1 (cell_fr H1.out.1 fid2 HY.out.1 HY.out.2.2.2.1)
      have r3 := cell_fr HSX.out.fr (fun k hk h => by rcases h with h | h; exact (HR.out.1 k hk).1 h; exact (HR.out.1 k hk).2 h) HY.out.1 (cell_fr H1.out.1 fid2 HY.out.1 HY.out.2.2.2.2)
      simp only [he] at hK ⊢
      go_simp
      exact hK
     ·have HSX := hid hS
      clear hS hlim hu
      have l3 := cells_row (box_kept H1.out.2.2.1 HSX.out.fr (fun h => by have hh := HOFF.out vb (.inr rfl); rcases h with h | h; exact hh.1 h; exact hh.2 h)) 3 _ rfl
      simp only [he] at hK ⊢
      go_simp
      exact hK
     ·have HSX := hid hS
      clear hS hlim hu
      have r0 := cell_fr HSX.out.fr (fun k hk h => by rcases h with h | h; exact (HR.out.1 k hk).1 h; exact (HR.out.1 k hk).2 h) HZ.out.1 (cell_fr H1.out.1 fid2 HZ.out.1 HZ.out.2.1)
      have r1 := cell_fr HSX.out.fr (fun k hk h => by rcases h with h | h; exact (HR.out.1 k hk).1 h; exact (HR.out.1 k hk).2 h) HZ.out.1 (cell_fr H1.out.1 fid2 HZ.out.1 HZ.out.2.2.1)
      have r2 := cell_fr HSX.out.fr (fun k hk h => by rcases h with h | h; exact (HR.out.1 k hk).1 h; exact (HR.out.1 k hk).2 h) HZ.out.1 (cell_fr H1.out.1 fid2 HZ.out.1 HZ.out.2.2.2.1)
      have r3 := cell_fr HSX.out.fr (fun k hk h => by rcases h with h | h; exact (HR.out.1 k hk).1 h; exact (HR.out.1 k hk).2 h) HZ.out.1 (cell_fr H1.out.1 fid2 HZ.out.1 HZ.out.2.2.2.2)
      simp only [he] at hK ⊢
      go_simp
      exact hK
     ·obtain rfl := hlim (0 : Nat) rfl
      simp only [List.take_zero, List.map_nil] at hS
      have HSX : Hid (FlIn B fb w1 m nv nv' ((partsF (fun i => flE (of (i)) (ov i)) j).foldl (addE m) (acc)) wx) := hid hS
      clear hS hlim hu
      simp only [he] at hK ⊢
      go_simp
      go_at_call 36
      have hoff : ∀ k, R k -> ¬ (k = fb \/ nv.ownBlock = some k) := fun k hk h => by rcases h with h | h; exact (HR.out.1 k hk).1 h; exact (HR.out.1 k hk).2 h
      refine (ih j R _ _ wx (ov j) B fb m nv' ((partsF (fun i => flE (of (i)) (ov i)) j).foldl (addE m) (acc)) (Shows.fr HSX.out.2.1 hoff _ _ (Shows.fr H1.out.1 fid2 _ _ HX.out.1)) (VShows.fr HSX.out.2.1 hoff _ _ (VShows.fr H1.out.1 fid2 _ _ HX.out.2)) (HFK.out j HLT.out) HSX.out.1 (fun k hk => ⟨(HR.out.1 k hk).1, HSX.out.off (by have := HR.out.2 k hk; have := HSZ1.out; omega) (HR.out.1 k hk).1 (HR.out.1 k hk).2⟩) (by have h1 := HLEN.out.1; have h2 := HLEN.out.2 j HLT.out; have h3 := fold_len m (partsF (fun i => flE (of (i)) (ov i)) j) (acc); have h4 := partsF_len (fun i => flE (of (i)) (ov i)) (fun i => szV (ov i)) (fun i => fl_len _ _) j; omega) (Nat.le_trans HBW.out (Nat.le_trans HSZ1.out HSX.out.2.1.size))).mono ?_
      rintro er wa ⟨rfl, nv2, hs2, fa, ho2⟩
      exact hK _ _ (fun _ h => by cases h; rfl) ⟨nv2, HSX.out.next hs2 fa ho2⟩

    case fin =>
     intro vals2 w4 hS hV
     clear hV
     obtain ⟨nv2, h4⟩ : ∃ nv2, FlIn B fb w1 m nv nv2 ((flE (of j) (ov j)).foldl (addE m) ((partsF (fun i => flE (of (i)) (ov i)) j).foldl (addE m) (acc))) w4 := hS
     have H4 : Hid (FlIn B fb w1 m nv nv2 ((partsF (fun i => flE (of (i)) (ov i)) (j + 1)).foldl (addE m) (acc)) w4) := hid (by rw [partsF_succ, List.foldl_append]; exact h4)
     clear h4
     simp only [frOfU, fillU, zsl]
     go_wp2
     go_roundg (c - (j + 1))
     case measure => have := HLT.out; omega
     case rel => exact ⟨j + 1, nv2, HLT.out, rfl, by go_num, H4⟩
  ·obtain rfl : j = c := by omega
   have jc : ¬ (j : Int) < (j : Int) := by omega
   go_wp2
   go_returns
   first | exact ⟨rfl, HEND.out _ HI.out rfl⟩ | exact ⟨rfl, HEND.out _ HI.out trivial⟩

set_option maxRecDepth 100000 in
theorem flat_k8 (k : Nat) (m' : Int) (ns : List Txt) (n : Nat) (of : Nat -> KT) (ih : ∀ i, FlatAt (of i)) (hk0 : k = 8) : FlatAt (.mk k m' ns n of) := by
 intro R0 v vv w T B fb m nv acc hsh0 hvs0 hfit hst hR0 hlen hB
 obtain ⟨R, hRd⟩ : ∃ R : Nat -> Prop, R = fun k => R0 k /\ k < w.heap.size := ⟨_, rfl⟩
 have hR : ∀ k, R k -> k ≠ fb /\ nv.ownBlock ≠ some k := by rw [hRd]; exact fun k h => hR0 k h.1
 have hRw : ∀ k, R k -> k < w.heap.size := by rw [hRd]; exact fun k h => h.2
 have hsh : Shows R w _ v := Shows.mono (fun k hk h => by rw [hRd]; exact ⟨h, hk⟩) _ _ hsh0
 have hvs : VShows R w T vv := VShows.mono (fun k hk h => by rw [hRd]; exact ⟨h, hk⟩) _ _ hvs0
 clear hsh0 hvs0 hR0 hRd
 obtain ⟨N, f, s, c, ov, va, cap, rfl, rfl, hVB, hVK⟩ := vshows_open hvs
 obtain ⟨vn, vo, rfl, hk, hn, ht, ho⟩ := hsh
 obtain ⟨na, nc, rfl, _⟩ := ht.shape
 obtain ⟨a', c', rfl, hs⟩ : ∃ a' c', vo = .slice a' n c' /\ Kids R w of a' n c' := by
  rcases ho with ⟨rfl, a', c', rfl⟩ | ⟨g, off, cap, hg, rfl, hle, hc⟩
  ·exact ⟨a', c', rfl, .inl rfl⟩
  ·exact ⟨_, cap, rfl, .inr ⟨hle, g, off, hg, rfl, hc⟩⟩
 obtain ⟨hN0, hN1, hf64, hsl, hc5⟩ := hVB
 have hnl : n <= 1000 := hn
 subst hk0
 obtain ⟨⟨hx0, hxn⟩, hc1, hfk⟩ := fits_cho hfit
 have HE : Hid ((flE (.mk 8 m' ns n of) (.mk N f s c ov)).foldl (addE m) acc = (flE (of N.toNat) (ov 0)).foldl (addE m) (addE m acc N)) := hid (by rw [hc1, flE, if_neg (by omega), if_neg (by omega), if_neg (by omega), if_pos (by omega)]; simp)
 subst hc1
 have HST := hid hst
 have hsum : ∀ j, j < 1 -> 2 * ((List.range j).map fun i => szV (ov i)).sum + 2 * szV (ov j) + 2 <= 2 * szV (.mk N f s 1 ov) := by
  intro j hj
  have h := sum_le_at (fun i => szV (ov i)) j 1 hj
  rw [szV]
  omega
 have HLEN := hid (And.intro hlen hsum)
 have HFK := hid hfk
 have HS := hid hs
 have HVK := hid hVK
 have HR := hid (And.intro hR hRw)
 have HOWN := hid (own_lt hst.2.1)
 have HBW := hid hB
 have hfbl : fb < w.heap.size := lt_of_block hst.1
 unfold sv
 obtain ⟨kz, hkz⟩ : ∃ kz : Int, ((8 : Nat) : Int) = kz := ⟨_, rfl⟩
 rw [hkz]
 have e0 : (kz == 0) = false := by simp; omega
 have e1 : (kz == 1) = false := by simp; omega
 have e2 : (kz == 2) = false := by simp; omega
 have e7 : (kz == 7) = false := by simp; omega
 have e3 : (kz == 3) = false := by simp; omega
 have e4 : (kz == 4) = false := by simp; omega
 have e5 : (kz == 5) = false := by simp; omega
 have e6 : (kz == 6) = false := by simp; omega
 have e8 : (kz == 8) = true := by simp; omega
 obtain ⟨w1, hw1⟩ : ∃ w1, w1 = (w.alloc (.cells #[.int .u8 kz, .int .i64 m', .slice na ns.length nc, .slice a' n c'] 36)).alloc (.cells #[.int .i64 N, .float .f64 f, .string ⟨s.toArray⟩, .slice va 1 cap] 44) := ⟨_, rfl⟩
 have f1 : Fr (fun _ => False) w w1 := by rw [hw1]; exact ((Fr.refl _ _).alloc _).alloc _
 have q1 : w1.heap[w.heap.size]? = some (.cells #[.int .u8 kz, .int .i64 m', .slice na ns.length nc, .slice a' n c'] 36 (0, 0)) := by rw [hw1]; exact heap_alloc_first _ _ _
 have v1 : w1.heap[w.heap.size + 1]? = some (.cells #[.int .i64 N, .float .f64 f, .string ⟨s.toArray⟩, .slice va 1 cap] 44 (0, 0)) := by rw [hw1]; exact heap_alloc_two _ _ _
 have hst1 := hst.fr f1 (fun h => h) fid2
 have HSZ1 := hid f1.size
 clear hst hlen hB hvs hVK hs ho hk hn ht hfit hfk hR hRw hsum hkz
 go_enter Try.func36, Try.ntmps36
 go_upto_region 1 with fail
 rw [<- hw1]
 clear hw1
 obtain ⟨vb, hvb⟩ : ∃ vb, w.heap.size + 1 = vb := ⟨_, rfl⟩
 rw [hvb] at v1 ⊢
 obtain ⟨tb, htb⟩ : ∃ tb, w.heap.size = tb := ⟨_, rfl⟩
 rw [htb] at q1 hfbl hvb ⊢
 have hvbl : vb < w1.heap.size := lt_of_block v1
 obtain ⟨c0, c1, c2, c3⟩ := cell_of_four q1
 obtain ⟨d0, d1, d2, d3⟩ := cell_of_four v1
 have H1 := hid (And.intro f1 (And.intro q1 (And.intro v1 (And.intro htb (And.intro hvb (And.intro hfbl hvbl))))))
 have HOFF : Hid (∀ k, k = tb \/ k = vb -> k ≠ fb /\ nv.ownBlock ≠ some k) := hid (by
  intro k hk
  refine ⟨by omega, fun e => ?_⟩
  have := HOWN.out k e
  omega)
 clear f1 q1 v1 htb hvb hfbl hvbl
 have hadd := add_any B fb m nv acc N w1 hst1 (by have := HLEN.out.1; omega) (Nat.le_trans HBW.out HSZ1.out)
 clear hst1
 go_wp2_with fail
 refine hadd.mono ?_
 rintro e w2 ⟨rfl, nv1, hst2, f2, hv2⟩
 have H2 : Hid (FlIn B fb w1 m nv nv1 (addE m acc N) w2) := hid ⟨hst2, f2, hv2⟩
 clear hadd hst2 f2 hv2 c0 c1 c2 c3 d0 d1 d2 d3
 obtain ⟨x, rfl⟩ : ∃ x : Nat, N = (x : Int) := ⟨N.toNat, by omega⟩
 simp only [Int.toNat_natCast] at HE HFK
 have xn0 : (x : Int) < (n : Int) := by omega
 have x00 : (0 : Int) <= (x : Int) := by omega
 have hxl : x < n := by omega
 rcases HS.out with hz | ⟨hcap, g, off, hg, rfl, hcell⟩
 ·(try have := HCN.out); omega
 rcases HVK.out with hz | ⟨hvcap, gv, ov', hgv, rfl, hvcell⟩
 ·omega
 obtain ⟨x0, x1, x2, x3, y0, y1, y2, y3, hx⟩ := hcell x (hxl)
 obtain ⟨s0, s1, s2, s3, r0, r1, r2, r3, hsv⟩ := hvcell 0 (by omega)
 obtain ⟨xk, xm, xa, xn, xc, xa', xn', xc', rfl, rfl, rfl, rfl⟩ := hx.cells
 obtain ⟨zn, zf, zs, za, zc, zcap, es⟩ := hsv.lit
 simp only [Value.agg.injEq, Array.mk.injEq, List.cons.injEq, and_true] at es
 obtain ⟨rfl, rfl, rfl, rfl⟩ := es
 simp only [Nat.zero_mul, Nat.add_zero] at r0 r1 r2 r3
 have HY := hid (And.intro hg (And.intro y0 (And.intro y1 (And.intro y2 y3))))
 have HZ := hid (And.intro hgv (And.intro r0 (And.intro r1 (And.intro r2 r3))))
 have HX := hid (And.intro hx hsv)
 clear hcell hvcell hx hsv y0 y1 y2 y3 r0 r1 r2 r3
 go_upto_region 24 with fail
 refine wp_region_chain (by kernel_rfl) [some 95, some 96, some 97, some 98, some 99, some 100, some 101, some 102, some 103, some 104, some 105, some 106] rfl (by decide) (by intro d hd; simp at hd ⊢; omega)
  [11] (FlS B fb w1 m nv nv1 (addE m acc (x : Int)) ((flE (of x) (ov 0)).foldl (addE m) (addE m acc (x : Int))))
  [.free (.pointer (some ⟨fb, 0, none⟩)), .free (.pointer (some ⟨tb, 3, none⟩)), .free (.slice (some ⟨g, off, none⟩) n c'), .free (.pointer (some ⟨vb, 0, none⟩)), .free (.int .i64 x), .free (.pointer (some ⟨g, off + x * 4, none⟩)), .free (.agg #[.int .u8 xk, .int .i64 xm, .slice xa xn xc, .slice xa' xn' xc']), .free (.pointer (some ⟨vb, 3, none⟩)), .free (.slice (some ⟨gv, ov', none⟩) 1 cap), .free (.pointer (some ⟨gv, ov', none⟩)), .free (.agg #[.int .i64 zn, .float .f64 zf, .string zs, .slice za zc zcap]), .link (some (.tuple #[]))]
  (by kernel_rfl) (by kernel_rfl) ?h0 ?step ?fin
 case h0 => exact H2.out.quiet (Fr.refl _ _).drew
 case step =>
  intro vals2
  simp only [frOfU, fillU, zsl]
  repeat' (first | exact AllOps.nil | refine AllOps.cons ?_ ?_)
  all_goals
   intro cvs wx hS he hu hlim K hK
   simp only [Act.put, zsl, zgl] at hK
   simp only [zml, Region.binds, forall_const, vmode_gc, Bool.false_eq_true, false_imp_iff, zgl, OpSort.val, Option.some.injEq, forall_eq', reduceCtorEq, implies_true, true_and, and_true] at he
  all_goals first | (clear hS hlim hu; (try simp only [he] at hK ⊢); go_simp; exact hK) | skip
  ·have HSX := hid hS
   clear hS hlim hu
   have l3 := cells_row (box_kept H1.out.2.1 HSX.out.fr (fun h => by have hh := HOFF.out tb (.inl rfl); rcases h with h | h; exact hh.1 h; exact hh.2 h)) 3 _ rfl
   simp only [he] at hK ⊢
   go_simp
   exact hK
  ·have HSX := hid hS
   clear hS hlim hu
   have l0 := cells_row (box_kept H1.out.2.2.1 HSX.out.fr (fun h => by have hh := HOFF.out vb (.inr rfl); rcases h with h | h; exact hh.1 h; exact hh.2 h)) 0 _ rfl
   simp only [he] at hK ⊢
   go_simp
   exact hK
  ·have HSX := hid hS
   clear hS hlim hu
   have r0 := cell_fr HSX.out.fr (fun k hk h => by rcases h with h | h; exact (HR.out.1 k hk).1 h; exact (HR.out.1 k hk).2 h) HY.out.1 (cell_fr H1.out.1 fid2 HY.out.1 HY.out.2.1)
   have r1 := cell_fr HSX.out.fr (fun k hk h => by rcases h with h | h; exact (HR.out.1 k hk).1 h; exact (HR.out.1 k hk).2 h) HY.out.1 (cell_fr H1.out.1 fid2 HY.out.1 HY.out.2.2.1)
   have r2 := cell_fr HSX.out.fr (fun k hk h => by rcases h with h | h; exact (HR.out.1 k hk).1 h; exact (HR.out.1 k hk).2 h) HY.out.1 (cell_fr H1.out.1 fid2 HY.out.1 HY.out.2.2.2.1)
   have r3 := cell_fr HSX.out.fr (fun k hk h => by rcases h with h | h; exact (HR.out.1 k hk).1 h; exact (HR.out.1 k hk).2 h) HY.out.1 (cell_fr H1.out.1 fid2 HY.out.1 HY.out.2.2.2.2)
   simp only [he] at hK ⊢
   go_simp
   exact hK
  ·have HSX := hid hS
   clear hS hlim hu
   have l3 := cells_row (box_kept H1.out.2.2.1 HSX.out.fr (fun h => by have hh := HOFF.out vb (.inr rfl); rcases h with h | h; exact hh.1 h; exact hh.2 h)) 3 _ rfl
   simp only [he] at hK ⊢
   go_simp
   exact hK
  ·have HSX := hid hS
   clear hS hlim hu
   have r0 := cell_fr HSX.out.fr (fun k hk h => by rcases h with h | h; exact (HR.out.1 k hk).1 h; exact (HR.out.1 k hk).2 h) HZ.out.1 (cell_fr H1.out.1 fid2 HZ.out.1 HZ.out.2.1)
   have r1 := cell_fr HSX.out.fr (fun k hk h => by rcases h with h | h; exact (HR.out.1 k hk).1 h; exact (HR.out.1 k hk).2 h) HZ.out.1 (cell_fr H1.out.1 fid2 HZ.out.1 HZ.out.2.2.1)
   have r2 := cell_fr HSX.out.fr (fun k hk h => by rcases h with h | h; exact (HR.out.1 k hk).1 h; exact (HR.out.1 k hk).2 h) HZ.out.1 (cell_fr H1.out.1 fid2 HZ.out.1 HZ.out.2.2.2.1)
   have r3 := cell_fr HSX.out.fr (fun k hk h => by rcases h with h | h; exact (HR.out.1 k hk).1 h; exact (HR.out.1 k hk).2 h) HZ.out.1 (cell_fr H1.out.1 fid2 HZ.out.1 HZ.out.2.2.2.2)
   simp only [he] at hK ⊢
   go_simp
   exact hK
  ·obtain rfl := hlim (0 : Nat) rfl
   simp only [List.take_zero, List.map_nil] at hS
   have HSX : Hid (FlIn B fb w1 m nv nv1 (addE m acc (x : Int)) wx) := hid hS
   clear hS hlim hu
   simp only [he] at hK ⊢
   go_simp
   go_at_call 36
   have hoff : ∀ k, R k -> ¬ (k = fb \/ nv.ownBlock = some k) := fun k hk h => by rcases h with h | h; exact (HR.out.1 k hk).1 h; exact (HR.out.1 k hk).2 h
   refine (ih x R _ _ wx (ov 0) B fb m nv1 (addE m acc (x : Int)) (Shows.fr HSX.out.2.1 hoff _ _ (Shows.fr H1.out.1 fid2 _ _ HX.out.1)) (VShows.fr HSX.out.2.1 hoff _ _ (VShows.fr H1.out.1 fid2 _ _ HX.out.2)) (HFK.out) HSX.out.1 (fun k hk => ⟨(HR.out.1 k hk).1, HSX.out.off (by have := HR.out.2 k hk; have := HSZ1.out; omega) (HR.out.1 k hk).1 (HR.out.1 k hk).2⟩) (by have h1 := HLEN.out.1; have h2 := HLEN.out.2 0 (by omega); have := addE_len m acc (x : Int); omega) (Nat.le_trans HBW.out (Nat.le_trans HSZ1.out HSX.out.2.1.size))).mono ?_
   rintro er wa ⟨rfl, nv2, hs2, fa, ho2⟩
   exact hK _ _ (fun _ h => by cases h; rfl) ⟨nv2, HSX.out.next hs2 fa ho2⟩

 case fin =>
  intro vals2 w3 hS hV
  clear hV
  obtain ⟨nv2, h3⟩ : ∃ nv2, FlIn B fb w1 m nv nv2 ((flE (of x) (ov 0)).foldl (addE m) (addE m acc (x : Int))) w3 := hS
  have H3 := hid h3
  clear h3
  simp only [frOfU, fillU, zsl]
  go_wp2
  go_returns
  refine ⟨rfl, nv2, ?_, (H1.out.1.mono (fun _ _ h => h.elim)).trans H3.out.2.1 fid2, ?_⟩
  ·rw [HE.out]
   exact H3.out.1
  ·rcases H3.out.2.2 with h | ⟨g, h, hg⟩
   ·exact .inl h
   ·exact .inr ⟨g, h, Nat.le_trans HSZ1.out hg⟩

theorem flat_any (t : KT) : FlatAt t := by
 induction t with
 | nil => exact fun _ _ _ _ _ _ _ _ _ _ h => h.elim
 | mk k m ns n of ih =>
  by_cases h9 : 9 <= k
  ·intro R v vv w T B fb mm nv acc hsh hvs hfit
   obtain ⟨N, f, s, c, ov, va, cap, rfl, rfl, hVB, hVK⟩ := vshows_open hvs
   rw [fitsE, if_neg (by omega), if_neg (by omega), if_neg (by omega), if_neg (by omega), if_neg (by omega), if_neg (by omega), if_neg (by omega), if_neg (by omega), if_neg (by omega)] at hfit
   cases hfit
  ·rcases (by omega : k = 0 \/ k = 1 \/ k = 2 \/ k = 3 \/ k = 4 \/ k = 5 \/ k = 6 \/ k = 7 \/ k = 8) with h | h | h | h | h | h | h | h | h
   ·exact flat_k0 k m ns n of h
   ·exact flat_k1 k m ns n of h
   ·exact flat_k2 k m ns n of h
   ·exact flat_k3 k m ns n of h
   ·exact flat_k4 k m ns n of h
   ·exact flat_k5 k m ns n of ih h
   ·exact flat_k6 k m ns n of ih h
   ·exact flat_k7 k m ns n of h
   ·exact flat_k8 k m ns n of ih h

def flatE (t : KT) (T : VT) (m : Int) : List Int := (flE t T).foldl (addE m) []

set_option maxRecDepth 100000 in
theorem Flat_any (R : Nat -> Prop) (t : KT) (T : VT) (v vv : Value) (w : World) (mz : Int) (hsh0 : Shows R w t v) (hvs0 : VShows R w T vv) (hsz : szV T <= 100000) (h0 : isVal t T = true) :
  Calls Try.prog 25 #[v, vv, .int .i64 mz] w fun e w' => ∃ nv, e = .returned nv /\ w'.ownsRow w.heap.size 2 1 nv (flatE t T mz).length ((flatE t T mz).map (Value.int .i64)) /\ Fr (fun _ => False) w w' := by
 have hsh : Shows (fun k => k < w.heap.size) w t v := Shows.mono (fun k hk _ => hk) _ _ hsh0
 have hvs : VShows (fun k => k < w.heap.size) w T vv := VShows.mono (fun k hk _ => hk) _ _ hvs0
 obtain ⟨k, m, a, n, c, a', n', c', rfl⟩ := hsh.four
 obtain ⟨N, f, s, va, vc, cap, rfl⟩ := hvs.lit
 obtain ⟨w1, hw1⟩ : ∃ w1, w1 = (w.alloc (.cells #[.int .u8 k, .int .i64 m, .slice a n c, .slice a' n' c'] 36)).alloc (.cells #[.int .i64 N, .float .f64 f, .string s, .slice va vc cap] 44) := ⟨_, rfl⟩
 have f1 : Fr (fun _ => False) w w1 := by rw [hw1]; exact ((Fr.refl _ _).alloc _).alloc _
 have q1 : w1.heap[w.heap.size]? = some (.cells #[.int .u8 k, .int .i64 m, .slice a n c, .slice a' n' c'] 36 (0, 0)) := by rw [hw1]; exact heap_alloc_first _ _ _
 have v1 : w1.heap[w.heap.size + 1]? = some (.cells #[.int .i64 N, .float .f64 f, .string s, .slice va vc cap] 44 (0, 0)) := by rw [hw1]; exact heap_alloc_two _ _ _
 have hchk := vcheck_any _ t T _ _ w1 (Shows.fr f1 fid2 _ _ hsh) (VShows.fr f1 fid2 _ _ hvs) hsz
 have hval : valE t T = 0 := by unfold valE; rw [h0]; rfl
 rw [hval] at hchk
 have hfit : fitsE t T = true := by unfold isVal at h0; rw [Bool.and_eq_true] at h0; exact h0.2
 have H1 := hid (And.intro f1 (And.intro q1 v1))
 have H0 := hid (And.intro hsh (And.intro hvs (And.intro hsz hfit)))
 clear hsh hvs hsz h0 f1 hsh0 hvs0 hval hfit
 obtain ⟨c0, c1, c2, c3⟩ := cell_of_four q1
 obtain ⟨d0, d1, d2, d3⟩ := cell_of_four v1
 clear q1 v1
 go_enter Try.func25, Try.ntmps25
 go_upto_region 1 with fail
 rw [<- hw1]
 clear hw1
 go_wp2_with fail
 refine hchk.mono ?_
 rintro e w2 ⟨rfl, f2⟩
 obtain ⟨w3, hw3⟩ : ∃ w3, w3 = w2.alloc (.cells #[.slice none 0 0, .int .i64 mz] 111) := ⟨_, rfl⟩
 have f3 : Fr (fun _ => False) w2 w3 := by rw [hw3]; exact (Fr.refl _ _).alloc _
 have q3 : w3.heap[w2.heap.size]? = some (.cells #[.slice none 0 0, .int .i64 mz] 111 (0, 0)) := by rw [hw3]; exact heap_alloc_new _ _
 have f03 := (H1.out.1.trans f2 fid2).trans f3 fid2
 have hsz2 := (H1.out.1.trans f2 fid2).size
 have hst : FlSt w.heap.size w2.heap.size w3 mz (.slice none 0 0) [] := ⟨q3, ⟨rfl, .inl ⟨rfl, rfl⟩⟩, fun k hk => by simp [Value.ownBlock] at hk⟩
 have hfl := flat_any t (fun k => k < w.heap.size) _ _ w3 T w.heap.size w2.heap.size mz (.slice none 0 0) [] (Shows.fr f03 fid2 _ _ H0.out.1) (VShows.fr f03 fid2 _ _ H0.out.2.1) H0.out.2.2.2 hst (fun k hk => ⟨by omega, by simp [Value.ownBlock]⟩) (by have := H0.out.2.2.1; simp; omega) f03.size
 have t3 := box_kept (box_kept H1.out.2.1 f2 (fun h => h)) f3 (fun h => h)
 have u3 := box_kept (box_kept H1.out.2.2 f2 (fun h => h)) f3 (fun h => h)
 have H3 := hid (And.intro f03 hsz2)
 clear f2 hchk c0 c1 c2 c3 d0 d1 d2 d3 f3 q3 hst f03 hsz2
 obtain ⟨c0, c1, c2, c3⟩ := cell_of_four t3
 obtain ⟨d0, d1, d2, d3⟩ := cell_of_four u3
 clear t3 u3
 go_upto_region 4 with fail
 rw [<- hw3]
 clear hw3
 obtain ⟨fb, hfb⟩ : ∃ fb, w2.heap.size = fb := ⟨_, rfl⟩
 rw [hfb] at hfl H3 ⊢
 clear hfb
 go_wp2_with fail
 refine hfl.mono ?_
 rintro e w4 ⟨rfl, nv, hs4, f4, ho4⟩
 obtain ⟨na, nc, rfl⟩ := slice_of_own hs4.2.1
 have r0 := cells_row hs4.1 0 _ rfl
 have H4 := hid (And.intro hs4.2.1 (H3.out.1.trans f4 (fun i hi e => by
  have := H3.out.2
  rcases e with e | e
  ·omega
  ·simp [Value.ownBlock] at e)))
 clear hfl hs4 f4 ho4 c0 c1 c2 c3 d0 d1 d2 d3
 go_wp2
 go_ret
 exact ⟨_, rfl, H4.out.1, H4.out.2⟩
end
section
theorem sum_shrink (g : Nat -> Nat) (a b : Nat) (h : a <= b) : ((List.range a).map g).sum <= ((List.range b).map g).sum := by
 induction b with
 | zero =>
      obtain rfl : a = 0 := by omega
      exact Nat.le_refl _
 | succ b ih =>
  by_cases e : a = b + 1
  ·subst e; exact Nat.le_refl _
  ·rw [List.range_succ (n := b), List.map_append, List.sum_append]
   have := ih (by omega)
   omega
end
section
theorem fold_mem (m : Int) (l : List Int) : ∀ acc x, x ∈ l.foldl (addE m) acc -> x ∈ acc \/ x ∈ l := by
 induction l with
 | nil => intro acc x h; exact .inl h
 | cons y l ih =>
  intro acc x h
  rw [List.foldl_cons] at h
  rcases ih _ _ h with h | h
  ·unfold addE at h
   split at h
   ·exact .inl h
   ·simp at h
    rcases h with h | h
    ·exact .inl h
    ·exact .inr (by simp [h])
  ·exact .inr (by simp [h])

def szK : KT -> Nat
 | .nil => 1
 | .mk _ _ _ n of => 1 + ((List.range n).map fun i => szK (of i)).sum

theorem szK_cost (t : KT) : goodE t -> szK t <= costE t := by
 induction t with
 | nil => exact fun h => h.elim
 | mk k m ns n of ih =>
  rintro ⟨⟨hn12, hown⟩, hkids⟩
  obtain ⟨hk8, hmost, hone, hparts, hnames, hnone⟩ := own_facts hown
  rw [szK, costE]
  by_cases h5 : k = 5
  ·rw [if_pos h5]
   have h1 := hone h5
   subst h1
   have := ih 0 (hkids 0 (by omega))
   simp [List.range_succ]
   omega
  ·rw [if_neg h5]
   have : ∀ j, j <= n -> ((List.range j).map fun i => szK (of i)).sum <= ((List.range j).map fun i => costE (of i)).sum := by
    intro j
    induction j with
    | zero => simp
    | succ j ihj =>
     intro hj
     rw [List.range_succ, List.map_append, List.map_append, List.sum_append, List.sum_append]
     have h1 := ihj (by omega)
     have h2 := ih j (hkids j (by omega))
     simp
     omega
   have := this n (Nat.le_refl _)
   omega

theorem survey_ok (t : KT) : goodE t -> ∀ lv p, hasE t lv = true -> p + szK t <= 1048576 -> surveyE t lv p = (true, p + szK t) := by
 induction t with
 | nil => exact fun h => h.elim
 | mk k m ns n of ih =>
  rintro ⟨⟨hn12, hown⟩, hkids⟩ lv p hh hp
  rw [hasE] at hh
  split at hh
  ·cases hh
  rename_i hlv
  rw [List.all_eq_true] at hh
  have ha : aloneE (.mk k m ns n of) = true := by rw [alone_own, hown, decide_eq_true hn12]; rfl
  rw [surveyE, if_neg (by
   rw [szK] at hp
   rintro (h | h | h)
   ·omega
   ·exact hlv (.inr h)
   ·rw [ha] at h; cases h)]
  have key : ∀ j, j <= n -> surveyL (fun i => surveyE (of i) (lv - 1)) j (p + 1) = (true, p + 1 + ((List.range j).map fun i => szK (of i)).sum) := by
   intro j
   induction j with
   | zero => intro _; simp [surveyL]
   | succ j ihj =>
    intro hj
    rw [surveyL, ihj (by omega), if_pos rfl]
    have hs : ((List.range (j + 1)).map fun i => szK (of i)).sum <= ((List.range n).map fun i => szK (of i)).sum := sum_shrink (fun i => szK (of i)) (j + 1) n hj
    rw [List.range_succ, List.map_append, List.sum_append] at hs ⊢
    rw [szK] at hp
    simp only [List.map_cons, List.map_nil, List.sum_cons, List.sum_nil, Nat.add_zero] at hs ⊢
    rw [ih j (hkids j (by omega)) (lv - 1) _ (hh j (List.mem_range.2 (by omega))) (by omega)]
    simp
    omega
  rw [key n (Nat.le_refl _), szK]
  simp
  omega

theorem partsL_getD (f : Nat -> Nat × Nat -> VT × (Nat × Nat)) (j : Nat) (s : Nat × Nat) : ∀ i, i < j -> ∃ q, (partsL f j s).1.getD i .nil = (f i q).1 := by
 induction j with
 | zero => intro i hi; omega
 | succ j ih =>
  intro i hi
  rw [partsL]
  by_cases h : i < j
  ·obtain ⟨q, hq⟩ := ih i h
   refine ⟨q, ?_⟩
   rw [<- hq]
   simp only [List.getD_eq_getElem?_getD]
   rw [List.getElem?_append_left (by rw [partsL_length]; exact h)]
  ·obtain rfl : i = j := by omega
   refine ⟨(partsL f i s).2, ?_⟩
   simp only [List.getD_eq_getElem?_getD]
   rw [List.getElem?_append_right (by rw [partsL_length]; exact Nat.le_refl _), partsL_length]
   simp

theorem emod_in (a b : Int) (h : 0 < b) : 0 <= a % b /\ a % b < b := ⟨Int.emod_nonneg a (by omega), Int.emod_lt_of_pos a h⟩

theorem build_fits (l : List Int) (t : KT) : goodE t -> ∀ s, isE t (buildE l t s).1 = true := by
 induction t with
 | nil => exact fun h => h.elim
 | mk k m ns n of ih =>
  rintro ⟨⟨hn12, hown⟩, hkids⟩ s
  obtain ⟨hk8, hmost, hone, hparts, hnames, hnone⟩ := own_facts hown
  have h2 := emod_in (numE l s.1) 2 (by omega)
  have h16 := emod_in (numE l s.1) 65536 (by omega)
  have h32 := emod_in (numE l s.1) 4294967296 (by omega)
  rcases (by omega : k = 0 \/ k = 1 \/ k = 2 \/ k = 3 \/ k = 4 \/ k = 5 \/ k = 6 \/ k = 7 \/ k = 8) with h | h | h | h | h | h | h | h | h <;> subst h
  ·rw [buildE, if_pos rfl]
   unfold vnum
   rw [isE_iff]
   simp [lowE, highE, canon0]
   omega
  ·rw [buildE, if_neg (by omega), if_pos rfl]
   unfold vnum
   rw [isE_iff]
   simp [lowE, highE, canon0]
   omega
  ·rw [buildE, if_neg (by omega), if_neg (by omega), if_pos rfl]
   unfold vnum long32
   rw [isE_iff]
   simp [lowE, highE, canon0]
   split <;> omega
  ·rw [buildE, if_neg (by omega), if_neg (by omega), if_neg (by omega), if_pos rfl]
   rw [isE_iff]
   simp [lowE, highE]
  ·rw [buildE, if_neg (by omega), if_neg (by omega), if_neg (by omega), if_neg (by omega), if_pos rfl]
   have hm := hmost (by omega)
   have h4 := emod_in (numE l s.1) (m + 1) (by omega)
   rw [isE_iff]
   simp [lowE, highE, canon0, lettersE]
   omega
  ·have hm := hmost (by omega)
   have h4 := emod_in (numE l s.1) 4 (by omega)
   have h1 := hone rfl
   by_cases hb : 100 < s.2 + 1
   ·rw [buildE_none _ _ _ _ _ _ hb]
    unfold listV
    rw [isE_iff]
    simp [lowE, highE, canon0]
    omega
   ·rw [buildE_seq _ _ _ _ _ _ hb]
    unfold listV
    rw [isE_iff]
    rw [partsL_length]
    refine ⟨fun _ => canon0, fun _ => rfl, fun h => by omega, by simp [lowE], by simp [highE], fun h => by omega, fun _ => by omega, fun h => by omega, fun h => by omega, fun i hi => ?_⟩
    obtain ⟨q, hq⟩ := partsL_getD (fun _ q => buildE l (of 0) q) _ (nextE l s.1, s.2 + 1) i hi
    rw [if_neg (by omega), if_neg (by omega), hq]
    exact ih 0 (hkids 0 (by omega)) q
  ·rw [buildE_record]
   unfold listV
   rw [isE_iff]
   rw [partsL_length]
   refine ⟨fun _ => canon0, fun _ => rfl, fun h => by omega, by simp [lowE], by simp [highE], fun h => by omega, fun h => by omega, fun h => rfl, fun h => by omega, fun i hi => ?_⟩
   obtain ⟨q, hq⟩ := partsL_getD (fun i q => buildE l (of i) q) n (s.1, s.2 + 1) i hi
   rw [if_pos rfl, hq]
   exact ih i (hkids i hi) q
  ·have hns := hnames (by omega)
   have h4 := emod_in (numE l s.1) (ns.length : Int) (by omega)
   rw [buildE, if_neg (by omega), if_neg (by omega), if_neg (by omega), if_neg (by omega), if_neg (by omega), if_neg (by omega), if_neg (by omega), if_pos rfl]
   unfold vnum
   rw [isE_iff]
   simp [lowE, highE, canon0]
   omega
  ·have hns := hnames (by omega)
   have hnn := hparts (by omega)
   have h4 := emod_in (numE l s.1) (n : Int) (by omega)
   rw [buildE_choice, isE_iff]
   refine ⟨fun _ => canon0, fun _ => rfl, fun h => by omega, by simp [lowE]; omega, by simp [highE]; omega, fun h => by omega, fun h => by omega, fun h => by omega, fun h => rfl, fun i hi => ?_⟩
   rw [if_neg (by omega), if_pos rfl]
   exact ih _ (hkids _ (by omega)) _

theorem build_type (l : List Int) (t : KN) (d : Nat) (hd : 1 <= d) (hd4 : d <= 4) (h : vokN t) : BuildE l (typeE [] t d) = (buildE l (typeE [] t d) (0, 0)).1 /\ isVal (typeE [] t d) (BuildE l (typeE [] t d)) = true := by
 obtain ⟨hg, hh⟩ := good_type t d hd h
 have hs : (surveyE (typeE [] t d) 1000 0).1 = true := by
  rw [survey_ok _ hg 1000 0 (hh 1000 (by omega)) (by
   have h1 := szK_cost _ hg
   have h2 := cost_typeE [] t d
   have h3 : 4 ^ d <= 4 ^ 4 := Nat.pow_le_pow_right (by omega) hd4
   omega)]
 have e : BuildE l (typeE [] t d) = (buildE l (typeE [] t d) (0, 0)).1 := by unfold BuildE; rw [if_pos hs]
 refine ⟨e, ?_⟩
 unfold isVal
 rw [hh 20 (by omega), fits_is _ hg, e, build_fits l _ hg]
 rfl
end
section
def RIn (r : Nat -> Int) : Prop := ∀ k, -9223372036854775808 <= r k /\ r k <= 9223372036854775807

theorem wrap_in (n : Int) : -9223372036854775808 <= wrap64 n /\ wrap64 n <= 9223372036854775807 := by unfold wrap64; omega

theorem opE_in (s : Int) (x : Ins) (r : Nat -> Int) (v : Int) (hs : -9223372036854775808 <= s /\ s <= 9223372036854775807) (hf : x.Fits) (hr : RIn r) (h : opE s x r = some v) : -9223372036854775808 <= v /\ v <= 9223372036854775807 := by
 have h1 := hf.lo
 have h2 := hf.hi
 have ha := hr x.a
 unfold opE at h
 split at h
 ·cases h; omega
 ·split at h
  ·cases h; exact ha
  ·split at h
   ·cases h; exact wrap_in _
   ·split at h
    ·cases h; exact wrap_in _
    ·split at h
     ·cases h; exact wrap_in _
     ·split at h
      ·split at h
       ·cases h
       ·cases h; exact wrap_in _
      ·split at h
       ·split at h <;> (cases h; omega)
       ·cases h; exact hs

theorem upd_in {r : Nat -> Int} (hr : RIn r) (d : Nat) (v : Int) (hv : -9223372036854775808 <= v /\ v <= 9223372036854775807) : RIn (upd r d v) := by
 intro k
 unfold upd
 split
 ·exact hv
 ·exact hr k

theorem steps_in (rep : List Ins -> Nat -> (Nat -> Int) -> Out) (s : Int) (hs : -9223372036854775808 <= s /\ s <= 9223372036854775807)
  (hrep : ∀ l n r b r', (∀ x ∈ l, x.Fits) -> RIn r -> rep l n r = .ok b r' -> RIn r') : ∀ (l : List Ins) (k : Nat) (r : Nat -> Int) (b : Bool) (r' : Nat -> Int), (∀ x ∈ l, x.Fits) -> RIn r -> stepsE rep s l k r = .ok b r' -> RIn r'
 | [], k, r, b, r', _, hr, h => by simp [stepsE] at h; rw [<- h.2]; exact hr
 | x :: l, k + 1, r, b, r', hl, hr, h => steps_in rep s hs hrep l k r b r' (fun y hy => hl y (List.mem_cons_of_mem _ hy)) hr (by rw [stepsE] at h; exact h)
 | x :: l, 0, r, b, r', hl, hr, h => by
  have hl' : ∀ y ∈ l, y.Fits := fun y hy => hl y (List.mem_cons_of_mem _ hy)
  have ih := fun k r (hr : RIn r) h => steps_in rep s hs hrep l k r b r' hl' hr h
  rw [stepsE] at h
  split at h
  ·cases h; exact hr
  ·split at h
   ·exact ih _ _ hr h
   ·split at h
    ·split at h
     ·rename_i r2 h2
      cases h
      exact hrep _ _ _ _ _ (fun y hy => hl' y (List.mem_of_mem_take hy)) hr h2
     ·rename_i r2 h2
      exact ih _ _ (hrep _ _ _ _ _ (fun y hy => hl' y (List.mem_of_mem_take hy)) hr h2) h
     ·cases h
    ·split at h
     ·split at h
      ·exact ih _ _ hr h
      ·cases h
     ·split at h
      ·rename_i v hv
       exact ih _ _ (upd_in hr _ _ (opE_in s x r v hs (hl x List.mem_cons_self) hr hv)) h
      ·cases h

theorem rep_in (f : (Nat -> Int) -> Out) (hf : ∀ r b r', RIn r -> f r = .ok b r' -> RIn r') : ∀ (n : Nat) (r : Nat -> Int) (b : Bool) (r' : Nat -> Int), RIn r -> repE f n r = .ok b r' -> RIn r'
 | 0, r, b, r', hr, h => by simp [repE] at h; rw [<- h.2]; exact hr
 | n + 1, r, b, r', hr, h => by
  rw [repE] at h
  split at h
  ·rename_i r2 h2
   exact rep_in f hf n _ b r' (hf _ _ _ hr h2) h
  ·rename_i r2 h2
   cases h
   exact hf _ _ _ hr h2
  ·cases h

theorem prun_in (s : Int) (hs : -9223372036854775808 <= s /\ s <= 9223372036854775807) : ∀ (d : Nat) (l : List Ins) (r : Nat -> Int) (b : Bool) (r' : Nat -> Int), (∀ x ∈ l, x.Fits) -> RIn r -> runE s d l r = .ok b r' -> RIn r'
 | 0, l, r, b, r', hl, hr, h => steps_in _ s hs (fun _ _ _ _ _ _ hr h => by cases h; exact hr) l 0 r b r' hl hr h
 | d + 1, l, r, b, r', hl, hr, h => steps_in _ s hs (fun l n r b r' hl hr h => rep_in _ (fun r b r' hr h => prun_in s hs d l r b r' hl hr h) n r b r' hr h) l 0 r b r' hl hr h

theorem sum_in (l : List Int) : -9223372036854775808 <= sumE l /\ sumE l <= 9223372036854775807 := by
 have : ∀ (l : List Int) (t : Int), (-9223372036854775808 <= t /\ t <= 9223372036854775807) -> -9223372036854775808 <= l.foldl (fun t n => wrap64 (t + n)) t /\ l.foldl (fun t n => wrap64 (t + n)) t <= 9223372036854775807 := by
  intro l
  induction l with
  | nil => exact fun t h => h
  | cons x l ih => exact fun t _ => ih _ (wrap_in _)
 exact this l 0 (by omega)

theorem load_in (s : Nat -> Int) (l : List Int) (hs : ∀ k, k < 8 -> -9223372036854775808 <= s k /\ s k <= 9223372036854775807) (hl : ∀ x ∈ l, -9223372036854775808 <= x /\ x <= 9223372036854775807) : RIn (loadE s l) := by
 intro k
 unfold loadE
 split
 ·rename_i h; exact hs k h
 ·split
  ·rename_i h1 h2
   rw [List.getD_eq_getElem?_getD]
   have : k - 8 < l.length := by omega
   rw [List.getElem?_eq_getElem this]
   exact hl _ (List.getElem_mem _)
  ·omega

def regs (r : Nat -> Int) : List Int := [r 8, r 9, r 10, r 11, r 12, r 13, r 14, r 15]

structure OC where
 e : Nat
 n : Int
 v : VT

def playE (t a : KT) (p : List Ins) (T : VT) (s : Nat -> Int) : (Nat -> Int) × OC :=
 if pcheckE p ≠ 0 then (s, ⟨14, 0, zeroV⟩)
 else if isVal t T = false then (s, ⟨17, 0, zeroV⟩)
 else match runE (sumE (flatE t T 64)) 1 p (loadE s (flatE t T 64)) with
  | .bad e n => (s, ⟨e, n, zeroV⟩)
  | .ok _ r => (r, ⟨0, 0, BuildE (regs r) a⟩)

def OShows (R : Nat -> Prop) (w : World) (o : OC) (v : Value) : Prop :=
 ∃ x0 x1 x2 x3, v = .agg #[.int .i64 o.e, .int .i64 o.n, x0, x1, x2, x3] /\ VShows R w o.v (.agg #[x0, x1, x2, x3])

theorem build_sz (l : List Int) (a : KT) (hc : costE a <= 100000) : szV (BuildE l a) <= 100000 := by
 unfold BuildE
 split
 ·rename_i h
  exact Nat.le_trans (build_le l a (survey_good a 1000 0 h) (0, 0)).2 hc
 ·simp [zeroV, szV]

set_option maxRecDepth 100000 in
theorem pcheck_call (R : Nat -> Prop) (t : KT) (T : VT) (p : List Ins) (t0 t1 t2 t3 a0 a1 a2 a3 pv v0 v1 v2 v3 : Value) (w : World) (hp : PSees w pv p) (hl : p.length <= 100) (ht : Shows R w t (.agg #[t0, t1, t2, t3])) (hT : VShows R w T (.agg #[v0, v1, v2, v3])) (hsz : szV T <= 100000) :
  Calls Try.prog 23 #[.agg #[t0, t1, t2, t3, a0, a1, a2, a3, pv], .agg #[v0, v1, v2, v3]] w fun e w' =>
   e = (if pcheckE p ≠ 0 then failV 14 0 else if isVal t T = false then failV 17 0 else .returned (.tuple #[])) /\ Fr (fun _ => False) w w' := by
 obtain ⟨w1, hw1⟩ : ∃ w1, w1 = (w.alloc (.cells #[t0, t1, t2, t3, a0, a1, a2, a3, pv] 40)).alloc (.cells #[v0, v1, v2, v3] 44) := ⟨_, rfl⟩
 have f1 : Fr (fun _ => False) w w1 := by rw [hw1]; exact ((Fr.refl _ _).alloc _).alloc _
 have q1 : w1.heap[w.heap.size]? = some (.cells #[t0, t1, t2, t3, a0, a1, a2, a3, pv] 40 (0, 0)) := by rw [hw1]; exact pbox_kept (heap_alloc_new _ _) ((Fr.refl (fun _ => False) _).alloc _) (fun h => h)
 have q2 : w1.heap[w.heap.size + 1]? = some (.cells #[v0, v1, v2, v3] 44 (0, 0)) := by rw [hw1]; exact new_two _ _ _
 have HC := hid (pcheck_any p pv w1 hl (hp.fr f1 fid2))
 have HV := hid (fun wx (f : Fr (fun _ => False) w1 wx) => vcheck_any R t T _ _ wx (Shows.fr (f1.trans f fid2) fid2 _ _ ht) (VShows.fr (f1.trans f fid2) fid2 _ _ hT) hsz)
 have Q := hid (And.intro f1 (And.intro q1 q2))
 have o8 := pcells_row q1 8 _ rfl
 have one : ∀ u ∈ [t0, t1, t2, t3, a0, a1, a2, a3, pv, v0, v1, v2, v3], True := fun _ _ => trivial
 clear one hp ht hT f1 q1 q2 hl hsz
 generalize hE : (if pcheckE p ≠ 0 then failV 14 0 else if isVal t T = false then failV 17 0 else .returned (.tuple #[])) = E
 have HE := hid hE.symm
 clear hE
 have H7 := hid (checkE_le p)
 generalize pcheckE p = ck at *
 go_enter Try.func23, Try.ntmps23
 go_wp2_with fail
 rw [<- hw1]
 clear hw1
 refine HC.out.mono ?_
 rintro e1 w2 ⟨rfl, f2⟩
 by_cases h0 : ck = 0
 ·subst h0
  have q1 := pbox_kept Q.out.2.1 f2 (fun h => h)
  have q2 := pbox_kept Q.out.2.2 f2 (fun h => h)
  have k0 := pcells_row q1 0 _ rfl
  have k1 := pcells_row q1 1 _ rfl
  have k2 := pcells_row q1 2 _ rfl
  have k3 := pcells_row q1 3 _ rfl
  have m0 := pcells_row q2 0 _ rfl
  have m1 := pcells_row q2 1 _ rfl
  have m2 := pcells_row q2 2 _ rfl
  have m3 := pcells_row q2 3 _ rfl
  have HW := hid (HV.out w2 f2)
  have F2 := hid f2
  clear q1 q2 f2 o8
  unfold valE at HW
  cases hv : isVal t T with
  | true =>
   rw [hv] at HW
   have HE2 := hid (show E = .returned (.tuple #[]) by rw [HE.out, hv]; rfl)
   clear hv
   go_wp2_with fail
   refine HW.out.mono ?_
   rintro e1 w3 ⟨rfl, f3⟩
   simp only [if_true]
   go_wp2
   go_returns
   rw [HE2.out]
   exact ⟨rfl, (Q.out.1.trans F2.out fid2).trans f3 fid2⟩
  | false =>
   rw [hv] at HW
   have HE2 := hid (show E = failV 17 0 by rw [HE.out, hv]; rfl)
   clear hv
   go_wp2_with fail
   refine HW.out.mono ?_
   rintro e1 w3 ⟨rfl, f3⟩
   simp only [Bool.false_eq_true, if_false]
   go_wp2
   rw [HE2.out]
   exact ⟨rfl, rfl, (Q.out.1.trans F2.out fid2).trans f3 fid2⟩
 ·have HE2 := hid (show E = failV 14 0 by rw [HE.out, if_pos h0])
  have h1 : ((ck : Int) == 0) = false := by simp; omega
  have h2 : ((ck : Int) != 0) = true := by simp; omega
  clear h0 o8
  go_wp2
  rw [HE2.out]
  exact ⟨rfl, rfl, Q.out.1.trans f2 fid2⟩

attribute [local go_sem] run_store_float

set_option maxRecDepth 100000 in
theorem answer_any (R : Nat -> Prop) (a : KT) (l : List Int) (t0 t1 t2 t3 a0 a1 a2 a3 pv nv : Value) (w : World) (ha : Shows R w a (.agg #[a0, a1, a2, a3])) (hn : Nums R w l nv) (hc : costE a <= 100000) (hva : isVal a (BuildE l a) = true) :
  Calls Try.prog 27 #[.agg #[t0, t1, t2, t3, a0, a1, a2, a3, pv], nv] w fun e w' =>
   ∃ v', e = .returned v' /\ VShows (fun k => w.heap.size <= k) w' (BuildE l a) v' /\ Fr (fun _ => False) w w' := by
 obtain ⟨na, nc, rfl⟩ := hn.shape
 obtain ⟨w1, hw1⟩ : ∃ w1, w1 = (w.alloc (.cells #[t0, t1, t2, t3, a0, a1, a2, a3, pv] 40)).alloc (.cells #[.int .i64 0, .float .f64 0, .string ⟨#[]⟩, .slice none 0 0] 44) := ⟨_, rfl⟩
 have f1 : Fr (fun _ => False) w w1 := by rw [hw1]; exact ((Fr.refl _ _).alloc _).alloc _
 have q1 : w1.heap[w.heap.size]? = some (.cells #[t0, t1, t2, t3, a0, a1, a2, a3, pv] 40 (0, 0)) := by rw [hw1]; exact pbox_kept (heap_alloc_new _ _) ((Fr.refl (fun _ => False) _).alloc _) (fun h => h)
 have q2 : w1.heap[w.heap.size + 1]? = some (.cells #[.int .i64 0, .float .f64 0, .string ⟨#[]⟩, .slice none 0 0] 44 (0, 0)) := by rw [hw1]; exact new_two _ _ _
 have HB := hid (Build_any R l a _ _ w1 (Shows.fr f1 fid2 _ _ ha) (hn.fr f1 fid2) hc)
 have HV := hid (fun wx v' (f : Fr (fun _ => False) w1 wx) (hv : VShows (fun k => w1.heap.size <= k) wx (BuildE l a) v') => vcheck_any (fun _ => True) a (BuildE l a) _ v' wx (Shows.fr (f1.trans f fid2) fid2 _ _ (Shows.mono (fun _ _ _ => trivial) _ _ ha)) (VShows.mono (fun _ _ _ => trivial) _ _ hv) (build_sz l a hc))
 have Q := hid (And.intro f1 (And.intro q1 q2))
 have o4 := pcells_row q1 4 _ rfl
 have o5 := pcells_row q1 5 _ rfl
 have o6 := pcells_row q1 6 _ rfl
 have o7 := pcells_row q1 7 _ rfl
 have HS : Hid (w1.heap.size = w.heap.size + 1 + 1) := hid (by rw [hw1]; simp)
 clear ha hn f1 q1 q2 hc
 unfold valE at HV
 rw [hva] at HV
 simp only [if_true] at HV
 clear hva
 generalize BuildE l a = BV at *
 go_enter Try.func27, Try.ntmps27
 go_wp2_with fail
 rw [<- hw1]
 clear hw1
 refine HB.out.mono ?_
 rintro e1 w2 ⟨v', rfl, hv2, f2⟩
 obtain ⟨zn, zf, zs, za, zc, zcap, e4⟩ := hv2.lit
 subst e4
 obtain ⟨w3, hw3⟩ : ∃ w3, w3 = w2.alloc (.cells #[.int .i64 zn, .float .f64 zf, .string zs, .slice za zc zcap] 44) := ⟨_, rfl⟩
 have f3 : Fr (fun _ => False) w2 w3 := by rw [hw3]; exact (Fr.refl _ _).alloc _
 have q3 : w3.heap[w2.heap.size]? = some (.cells #[.int .i64 zn, .float .f64 zf, .string zs, .slice za zc zcap] 44 (0, 0)) := by rw [hw3]; exact heap_alloc_new _ _
 have p4 := pbox_kept (pbox_kept Q.out.2.1 f2 (fun h => h)) f3 (fun h => h)
 have y4 := pcells_row p4 4 _ rfl
 have y5 := pcells_row p4 5 _ rfl
 have y6 := pcells_row p4 6 _ rfl
 have y7 := pcells_row p4 7 _ rfl
 have x0 := pcells_row q3 0 _ rfl
 have x1 := pcells_row q3 1 _ rfl
 have x2 := pcells_row q3 2 _ rfl
 have x3 := pcells_row q3 3 _ rfl
 have hv3 := VShows.fr f3 fid2 _ _ hv2
 have HW := hid (HV.out w3 _ (f2.trans f3 fid2) hv3)
 have one := vshows_one hv3
 have F3 := hid (And.intro (f2.trans f3 fid2) (And.intro q3 (And.intro hv3 one)))
 have G2 := hid f2.size
 clear o4 o5 o6 o7 hv2 f2 f3 q3 p4 hv3 one
 generalize hgs : w2.heap.size = g3 at *
 have HG := hid hgs
 go_upto_region 2 with fail
 rw [<- hw3]
 clear hw3
 go_wp2_with fail
 refine HW.out.mono ?_
 rintro e1 w4 ⟨rfl, f4⟩
 have q5 := pbox_kept F3.out.2.1 f4 (fun h => h)
 have m0 := pcells_row q5 0 _ rfl
 have m1 := pcells_row q5 1 _ rfl
 have m2 := pcells_row q5 2 _ rfl
 have m3 := pcells_row q5 3 _ rfl
 have F4 := hid f4
 have qr : w4.heap[w.heap.size + 1]? = some (.cells #[.int .i64 0, .float .f64 0, .string ⟨#[]⟩, .slice none 0 0] 44 (0, 0)) := pbox_kept (pbox_kept Q.out.2.2 F3.out.1 (fun h => h)) f4 (fun h => h)
 have QR := hid qr
 clear q5 f4 qr x0 x1 x2 x3 y4 y5 y6 y7
 go_wp2_with (refine wpList_store_row rfl 44 (.tmp 4) (.tmp 17) rfl (w.heap.size + 1) #[.int .i64 zn, .float .f64 zf, .string zs, .slice za zc zcap] rfl rfl 44 #[.int .i64 0, .float .f64 0, .string ⟨#[]⟩, .slice none 0 0] ?hg ?hi ?hold ?h1 ?go)
 case hg => exact QR.out
 case hi => kernel_rfl
 case hold => rfl
 case h1 => simp [Value.oneCell']
 case go =>
  refine bodyPost_ret (results_cell_row rfl _ _ (w.heap.size + 1) 44 _ _ _ rfl (setRow_heap _ _ _ _ _ _ QR.out) Try.underlying44 rfl (by kernel_rfl)) rfl ?_
  have fs : Fr (fun k => k = w.heap.size + 1) w3 (w4.setRow (w.heap.size + 1) #[.int .i64 zn, .float .f64 zf, .string zs, .slice za zc zcap]) := Fr.setRow (S := fun k => k = w.heap.size + 1) (F4.out.mono (fun _ _ h => h.elim)) (fun _ => rfl) _
  have h1 := HS.out
  have h2 := G2.out
  refine ⟨_, rfl, VShows.mono (fun k _ hk => by omega) _ _ (VShows.fr fs (fun k hk h => by omega) _ _ F3.out.2.2.1), Fr.new (Q.out.1.trans F3.out.1 fid2) (fun k hk => by omega) fs⟩
end
section
section
variable {P : Program} {ops : Array Oper} {Q : Exit -> Act -> World -> Prop}

def linksDone (n : Nat) (F : Nat -> OpSort) (listed : Array Bool) (vals : Nat -> Value) (j : Nat) : Option Value :=
 if decide (j < n) && (F j).isLink && listed.getD j true then some (vals j) else none

structure RelInvL (ops : Array Oper) (S : (Nat -> Option Value) -> World -> Prop) (F : Nat -> OpSort) (orig : Nat -> Value) (listed : Array Bool) (vals : Nat -> Value) (w : World) : Prop where
 done : S (linksDone ops.size F listed vals) w
 free : ∀ i v, i < ops.size -> listed.getD i true = true -> (F i).val = some v -> vals i = v
 rest : ∀ i, i < ops.size -> listed.getD i true = false -> vals i = orig i
 closed : ∀ i o, ops[i]? = some o -> listed.getD i true = true -> ∀ e ∈ o.after, Region.binds .any e = true -> listed.getD e.on true = true

def RelOpL (P : Program) (ops : Array Oper) (Q : Exit -> Act -> World -> Prop) (S : (Nat -> Option Value) -> World -> Prop) (F : Nat -> OpSort) (orig : Nat -> Value) (a : Act) (vals : Nat -> Value) (i : Nat) (o : Oper) : Prop :=
 ∀ (st : Nat -> Option Value) (w : World), S st w -> (∀ e ∈ o.after.toList, Region.binds .any e = true -> (∀ v, (F e.on).val = some v -> vals e.on = v) /\ ((F e.on).isLink = true -> st e.on = some (vals e.on))) -> (∀ j, j < ops.size -> waits ops j i = true -> vals j = orig j /\ st j = none) -> st i = none ->
  match F i with
  | .free v => ∀ K : Act -> World -> Prop, K (a.put o.dst v) w ->
    if Region.wanted o (yielded ops a.tmps) = true then o.wp P a w K Q else K (a.put o.dst undef) w
  | .link u => ∀ K : Act -> World -> Prop, (∀ v w', (∀ x, u = some x -> v = x) -> S (fun j => if j = i then some v else st j) w' -> K (a.put o.dst v) w') ->
    if Region.wanted o (yielded ops a.tmps) = true then o.wp P a w K Q else K (a.put o.dst undef) w

theorem wpAny_links {fr : (Nat -> Value) -> Act}
  (hput : ∀ i o, ops[i]? = some o -> ∀ vals v, (fr vals).put o.dst v = fr (fun j => if j = i then v else vals j))
  {S : (Nat -> Option Value) -> World -> Prop} {F : Nat -> OpSort} {orig : Nat -> Value} (hdown : edgesDown ops = true)
  (step : ∀ i o, ops[i]? = some o -> ∀ vals, RelOpL P ops Q S F orig (fr vals) vals i o)
  (fin : ∀ vals w, S (fun j => if decide (j < ops.size) && (F j).isLink then some (vals j) else none) w -> (∀ i v, i < ops.size -> (F i).val = some v -> vals i = v) -> Q .normal (fr vals) w) :
  ∀ (fuel : Nat) (listed : Array Bool) (vals : Nat -> Value) (w : World), listed.size = ops.size -> (listed.toList.filter (! ·)).length = fuel -> RelInvL ops S F orig listed vals w -> wpAny P .any ops Q fuel listed (fr vals) w := by
 have done : ∀ (listed : Array Bool) (vals : Nat -> Value) (w : World), listed.size = ops.size -> RelInvL ops S F orig listed vals w -> Region.ready .any ops listed = [] -> Q .normal (fr vals) w := by
  intro listed vals w hs hI hr
  have hall : ∀ n i, i < n -> i < ops.size -> listed.getD i true = true := by
   intro n
   induction n with
   | zero => intro i hi; omega
   | succ n ih =>
    intro i hi hio
    by_cases h : listed.getD i true = true
    ·exact h
    ·exfalso
     have hno : i ∉ Region.ready .any ops listed := by rw [hr]; exact List.not_mem_nil
     refine hno ?_
     unfold Region.ready
     rw [List.mem_filter]
     refine ⟨List.mem_range.2 hio, ?_⟩
     have ho : ops[i]? = some ops[i] := Array.getElem?_eq_getElem hio
     simp only [Bool.and_eq_true, ho, Option.map_some, Option.getD_some]
     refine ⟨by simpa using h, ?_⟩
     rw [Array.all_eq_true']
     intro e he
     by_cases hb : Region.binds .any e = true
     ·have hlt := edgesDown_spec hdown ho he hb
      have h1 := ih e.on (by omega) (by omega)
      have h2 : e.on < listed.size := by omega
      rw [Array.getD_eq_getD_getElem?, Array.getElem?_eq_getElem h2, Option.getD_some] at h1
      simp [h2, h1]
     ·simp [hb]
  refine fin vals w ?_ (fun i v hi hv => hI.free i v hi (hall (i + 1) i (by omega) hi) hv)
  have hS := hI.done
  have e : linksDone ops.size F listed vals = fun j => if decide (j < ops.size) && (F j).isLink then some (vals j) else none := by
   funext j
   unfold linksDone
   by_cases hj : j < ops.size
   ·rw [hall (j + 1) j (by omega) hj, Bool.and_true]
   ·simp [hj]
  rw [e] at hS
  exact hS
 intro fuel
 induction fuel with
 | zero =>
  intro listed vals w hs hf hI
  have hr : Region.ready .any ops listed = [] := by
   unfold Region.ready
   rw [List.filter_eq_nil_iff]
   intro i hi
   have hio := List.mem_range.1 hi
   have h0 : listed.toList.filter (! ·) = [] := List.eq_nil_of_length_eq_zero hf
   rw [List.filter_eq_nil_iff] at h0
   have hl : i < listed.size := by omega
   have h1 := h0 listed[i] (by simp)
   simp at h1
   simp [Array.getD, hl, h1]
  exact ⟨hr, done listed vals w hs hI hr⟩
 | succ fuel ih =>
  intro listed vals w hs hf hI
  refine ⟨fun hr => done listed vals w hs hI hr, ?_⟩
  intro i hi
  unfold Region.ready at hi
  rw [List.mem_filter] at hi
  obtain ⟨hio, hi2⟩ := hi
  have hio := List.mem_range.1 hio
  have ho : ops[i]? = some ops[i] := Array.getElem?_eq_getElem hio
  simp only [Bool.and_eq_true, ho, Option.map_some, Option.getD_some] at hi2
  obtain ⟨hn, ha⟩ := hi2
  have hil : i < listed.size := by omega
  have hnl : listed[i] = false := by simpa [Array.getD, hil] using hn
  have hni : listed.getD i true = false := by rw [Array.getD_eq_getD_getElem?, Array.getElem?_eq_getElem hil, hnl]; rfl
  have hcount : ((listed.setIfInBounds i true).toList.filter (! ·)).length = fuel := by
   have e : (listed.setIfInBounds i true).toList = listed.toList.set i true := by simp
   rw [e]
   have hd : listed.toList = listed.toList.take i ++ listed[i] :: listed.toList.drop (i + 1) := by
    have hl' : i < listed.toList.length := by simpa using hil
    have := (List.take_append_drop i listed.toList).symm
    rw [List.drop_eq_getElem_cons hl'] at this
    simpa using this
   have hset : listed.toList.set i true = listed.toList.take i ++ true :: listed.toList.drop (i + 1) := by
    rw [List.set_eq_take_append_cons_drop, if_pos (by simpa using hil)]
   rw [hset]
   rw [hd, hnl] at hf
   simp at hf ⊢
   omega
  have hnd : ∀ e ∈ ops[i].after, Region.binds .any e = true -> listed.getD e.on true = true := by
   intro e he hb
   rw [Array.all_eq_true'] at ha
   have h1 := ha e he
   simp [hb] at h1
   have hlt := edgesDown_spec hdown ho he hb
   have h2 : e.on < listed.size := by omega
   simpa [Array.getD, h2] using h1
  have hwt : ∀ j, j < ops.size -> waits ops j i = true -> listed.getD j true = false := by
   intro j hjs hw
   unfold waits at hw
   have hjo : ops[j]? = some ops[j] := Array.getElem?_eq_getElem hjs
   rw [hjo] at hw
   simp only [Array.any_eq_true', Bool.and_eq_true, decide_eq_true_eq] at hw
   obtain ⟨e, he, hb, hei⟩ := hw
   cases hlj : listed.getD j true with
   | false => rfl
   | true =>
    have := hI.closed j _ hjo hlj e he hb
    rw [hei, hni] at this
    cases this
  have hnext : ∀ v w', S (linksDone ops.size F (listed.setIfInBounds i true) (fun j => if j = i then v else vals j)) w' -> (∀ u, (F i).val = some u -> v = u) ->
    wpAny P .any ops Q fuel (listed.setIfInBounds i true) ((fr vals).put ops[i].dst v) w' := by
   intro v w' hd hu
   rw [hput i _ ho]
   refine ih _ _ _ (by simpa using hs) hcount ⟨hd, ?_, ?_, ?_⟩
   ·intro j u hj hlj hF
    rw [getD_set _ _ _ hil] at hlj
    by_cases hji : j = i
    ·subst hji; simpa using hu u hF
    ·rw [if_neg hji] at hlj
     simp only [if_neg hji]
     exact hI.free j u hj hlj hF
   ·intro j hj hlj
    rw [getD_set _ _ _ hil] at hlj
    by_cases hji : j = i
    ·rw [if_pos hji] at hlj; cases hlj
    ·rw [if_neg hji] at hlj
     simp only [if_neg hji]
     exact hI.rest j hj hlj
   ·intro j o hjo hlj e he hb
    rw [getD_set _ _ _ hil] at hlj ⊢
    by_cases hei : e.on = i
    ·rw [if_pos hei]
    ·rw [if_neg hei]
     by_cases hji : j = i
     ·subst hji
      rw [ho] at hjo
      cases hjo
      exact hnd e he hb
     ·rw [if_neg hji] at hlj
      exact hI.closed j o hjo hlj e he hb
  have hst := step i _ ho vals _ w hI.done (by
   intro e he hb
   have hlt := edgesDown_spec hdown ho (by simpa using he) hb
   have hle := hnd e (by simpa using he) hb
   refine ⟨fun v hv => hI.free e.on v (by omega) hle hv, fun hL => ?_⟩
   unfold linksDone
   rw [hle, hL, decide_eq_true (show e.on < ops.size by omega)]
   rfl) (fun j hjs hw => ⟨hI.rest j hjs (hwt j hjs hw), by unfold linksDone; rw [hwt j hjs hw]; simp⟩) (by unfold linksDone; rw [hni]; simp)
  have hkey : if Region.wanted ops[i] (yielded ops (fr vals).tmps) = true then ops[i].wp P (fr vals) w (fun a' w' => wpAny P .any ops Q fuel (listed.setIfInBounds i true) a' w') Q else wpAny P .any ops Q fuel (listed.setIfInBounds i true) ((fr vals).put ops[i].dst undef) w := by
   cases hF : F i with
   | free v =>
    simp only [hF] at hst
    refine hst _ (hnext v w ?_ ?_)
    ·have e : linksDone ops.size F (listed.setIfInBounds i true) (fun j => if j = i then v else vals j) = linksDone ops.size F listed vals := by
      funext j
      unfold linksDone
      rw [getD_set _ _ _ hil]
      by_cases hji : j = i
      ·subst hji
       rw [hF]
       simp [OpSort.isLink]
      ·simp only [if_neg hji]
     rw [e]
     exact hI.done
    ·intro u hu
     rw [hF] at hu
     simpa [OpSort.val] using hu
   | link u =>
    simp only [hF] at hst
    refine hst _ (fun v w' hv' hS' => hnext v w' ?_ ?_)
    ·have e : linksDone ops.size F (listed.setIfInBounds i true) (fun j => if j = i then v else vals j) = fun j => if j = i then some v else linksDone ops.size F listed vals j := by
      funext j
      unfold linksDone
      rw [getD_set _ _ _ hil]
      by_cases hji : j = i
      ·subst hji
       rw [hF]
       simp [OpSort.isLink, hio]
      ·simp only [if_neg hji]
     rw [e]
     exact hS'
    ·intro u' hu
     rw [hF] at hu
     exact hv' u' (by simpa [OpSort.val] using hu)
  unfold wpOp
  simp only [ho]
  split
  ·rename_i hw
   rw [if_pos hw] at hkey
   exact .inl hkey
  ·rename_i hw
   rw [if_neg hw] at hkey
   exact hkey

theorem wp_region_links {id : Nat} {l : List Oper} {a : Act} {w : World} (hm : P.follows .mixedOrders = true)
  (ds : List (Option Nat)) (hds : l.map (·.dst) = ds) (hnd : noTwice ds = true) (hlt : ∀ d, some d ∈ ds -> d < a.tmps.size)
  (S : (Nat -> Option Value) -> World -> Prop) (FL : List OpSort) (hdown : edgesDown l.toArray = true)
  (h0 : S (fun _ => none) w.drew)
  (step : ∀ vals : Nat -> Value, AllOps (RelOpL P l.toArray Q S (fun i => FL.getD i (.link none)) (fun i => ((ds[i]?.bind fun x => x).bind (a.tmps[·]?)).getD undef) (frOfU a ds vals) vals) l 0)
  (fin : ∀ vals w', S (fun j => if decide (j < l.length) && (FL.getD j (.link none)).isLink then some (vals j) else none) w' -> (∀ i v, i < l.length -> (FL.getD i (.link none)).val = some v -> vals i = v) -> Q .normal (frOfU a ds vals) w') : (Code.region id l.toArray true).wp P Q a w := by
 have hdst : ∀ (i : Nat) (o : Oper), l[i]? = some o -> ds[i]? = some o.dst := by
  intro i o ho
  rw [<- hds]
  simp [ho]
 refine wp_region_any hm ?_
 have ha : a = frOfU a ds (fun i => ((ds[i]?.bind fun x => x).bind (a.tmps[·]?)).getD undef) := by
  unfold frOfU
  have : fillU (fun j => ((ds[j]?.bind fun x => x).bind (a.tmps[·]?)).getD undef) ds 0 a.tmps = a.tmps := by
   apply Array.ext_getElem?
   intro x
   by_cases hx : some x ∈ ds
   ·obtain ⟨j, hj, hjx⟩ := List.getElem_of_mem hx
    have hd : ds[j]? = some (some x) := by rw [List.getElem?_eq_getElem hj, hjx]
    rw [fillU_at _ ds 0 a.tmps hnd hlt j _ hd, Nat.zero_add, hd]
    have hb := hlt x hx
    simp [Array.getElem?_eq_getElem hb]
   ·exact fillU_other _ _ _ _ _ hx
  rw [this]
 have hput : ∀ i o, l.toArray[i]? = some o -> ∀ vals v, (frOfU a ds vals).put o.dst v = frOfU a ds (fun j => if j = i then v else vals j) := by
  intro i o ho vals v
  have h1 := hdst i o (by simpa using ho)
  unfold frOfU Act.put
  cases h2 : o.dst with
  | none =>
   rw [h2] at h1
   simp only
   congr 1
   apply Array.ext_getElem?
   intro x
   by_cases hx : some x ∈ ds
   ·obtain ⟨j, hj, hjx⟩ := List.getElem_of_mem hx
    have hd : ds[j]? = some (some x) := by rw [List.getElem?_eq_getElem hj, hjx]
    rw [fillU_at _ ds 0 a.tmps hnd hlt j _ hd, fillU_at _ ds 0 a.tmps hnd hlt j _ hd, Nat.zero_add]
    have hne : j ≠ i := by
     intro e
     subst e
     rw [h1] at hd
     cases hd
    rw [if_neg hne]
   ·rw [fillU_other _ _ _ _ _ hx, fillU_other _ _ _ _ _ hx]
  | some d =>
   rw [h2] at h1
   simp only
   congr 1
   apply Array.ext_getElem?
   intro x
   have hd : d < a.tmps.size := hlt d (List.mem_of_getElem? h1)
   rw [Array.getElem?_setIfInBounds]
   by_cases hx : some x ∈ ds
   ·obtain ⟨j, hj, hjx⟩ := List.getElem_of_mem hx
    have hdj : ds[j]? = some (some x) := by rw [List.getElem?_eq_getElem hj, hjx]
    rw [fillU_at _ ds 0 a.tmps hnd hlt j _ hdj, fillU_at _ ds 0 a.tmps hnd hlt j _ hdj, Nat.zero_add]
    by_cases e : j = i
    ·subst e
     rw [h1] at hdj
     simp only [Option.some.injEq] at hdj
     rw [if_pos hdj, if_pos (by rw [fillU_size]; exact hdj ▸ hd), if_pos rfl]
    ·have hne : d ≠ x := by
      intro e2
      subst e2
      exact e (noTwice_inj hnd hdj h1)
     rw [if_neg hne, if_neg e]
   ·have hne : d ≠ x := fun e => hx (e ▸ List.mem_of_getElem? h1)
    rw [if_neg hne, fillU_other _ _ _ _ _ hx, fillU_other _ _ _ _ _ hx]
 have hfalse : ∀ i, i < l.toArray.size -> ¬ (Array.replicate l.toArray.size false).getD i true = true := by
  intro i hi h
  have hi' : i < l.length := by simpa using hi
  simp [Array.getD, hi'] at h
 have hmain := wpAny_links (P := P) (ops := l.toArray) (Q := Q) (fr := frOfU a ds) hput (S := S) (F := fun i => FL.getD i (.link none)) (orig := fun i => ((ds[i]?.bind fun x => x).bind (a.tmps[·]?)).getD undef) hdown (by
   intro i o ho vals
   have := (step vals).get i o (by simpa using ho)
   rw [Nat.zero_add] at this
   exact this) (fun vals w h1 h2 => fin vals w (by simpa using h1) (fun i v hi => h2 i v (by simpa using hi))) l.toArray.size (Array.replicate l.toArray.size false) (fun i => ((ds[i]?.bind fun x => x).bind (a.tmps[·]?)).getD undef) w.drew (by simp) (by simp) ⟨?_, ?_, ?_, ?_⟩
 ·rw [<- ha] at hmain
  exact hmain
 ·have e : linksDone l.toArray.size (fun i => FL.getD i (.link none)) (Array.replicate l.toArray.size false) (fun i => ((ds[i]?.bind fun x => x).bind (a.tmps[·]?)).getD undef) = fun _ => none := by
   funext j
   unfold linksDone
   by_cases hj : j < l.toArray.size
   ·have := hfalse j hj
    rw [Bool.not_eq_true] at this
    rw [this, Bool.and_false]
    rfl
   ·rw [decide_eq_false hj]
    rfl
  rw [e]
  exact h0
 ·intro i v hi hl
  exact absurd hl (hfalse i hi)
 ·intro i _ _
  rfl
 ·intro i o ho hl
  exact absurd hl (hfalse i (Array.getElem?_eq_some_iff.1 ho).1)

end
end
section
structure Seen where
 sh : (Nat -> Prop) -> World -> Value -> Prop
 fr : ∀ {R S : Nat -> Prop} {w w' : World} {v : Value}, Fr S w w' -> (∀ k, R k -> ¬ S k) -> sh R w v -> sh R w' v
 mono : ∀ {R S : Nat -> Prop} {w : World} {v : Value}, (∀ k, k < w.heap.size -> R k -> S k) -> sh R w v -> sh S w v

def pptr (g : Nat) : Value := .pointer (some ⟨g, 0, none⟩)

theorem pptr_inj {g g' : Nat} (h : pptr g = pptr g') : g = g' := by unfold pptr at h; simpa using h

def pupd (st : Nat -> Option Value) (i : Nat) (v : Value) : Nat -> Option Value := fun j => if j = i then some v else st j

theorem pupd_at (st : Nat -> Option Value) (i : Nat) (v : Value) : pupd st i v i = some v := by unfold pupd; rw [if_pos rfl]

theorem pupd_ne (st : Nat -> Option Value) (i j : Nat) (v : Value) (h : j ≠ i) : pupd st i v j = st j := by unfold pupd; rw [if_neg h]
end
section
theorem whole_in (b : Nat) : -9223372036854775808 <= Fl.whole b /\ Fl.whole b <= 9223372036854775807 := by
 unfold Fl.whole
 split
 ·omega
 ·split
  ·omega
  ·split
   ·omega
   ·rename_i h1 h2
    obtain ⟨c, hc, e, _⟩ := Fl.toInt_small (key_rung h1 h2)
    unfold Fl.tr
    rw [e]
    cases Fl.neg b <;> simp <;> omega

theorem fl_in (R : Nat -> Prop) (w : World) (t : KT) : ∀ T v, VShows R w T v -> ∀ x ∈ flE t T, -9223372036854775808 <= x /\ x <= 9223372036854775807 := by
 induction t with
 | nil => intro T v _ x hx; simp [flE] at hx
 | mk k m ns n of ih =>
  intro T v h x hx
  cases T with
  | nil => exact h.elim
  | mk N f s c ov =>
   obtain ⟨vo, rfl, ⟨b1, b2, b3, b4, b5⟩, hk⟩ := h
   rw [flE] at hx
   split at hx
   ·rw [List.mem_singleton.1 hx]; exact whole_in f
   split at hx
   ·rw [List.mem_singleton.1 hx]
    unfold maxLen at b4
    omega
   ·rw [List.mem_append, List.mem_append] at hx
    rcases hx with (hx | hx) | hx
    ·split at hx
     ·rw [List.mem_singleton.1 hx]; omega
     ·cases hx
    ·split at hx
     ·rw [List.mem_singleton.1 hx]; omega
     ·cases hx
    ·obtain ⟨l, hl, hxl⟩ := List.mem_flatten.1 hx
     obtain ⟨i, hi, rfl⟩ := List.mem_map.1 hl
     have hic := List.mem_range.1 hi
     rcases hk with ⟨h0, _⟩ | ⟨g, off, cap, _, _, _, hcell⟩
     ·omega
     ·obtain ⟨x0, x1, x2, x3, _, _, _, _, hs⟩ := hcell i hic
      exact ih _ _ _ hs x hxl

theorem fold_max (m : Nat) (l : List Int) : ∀ acc, acc.length <= m -> (l.foldl (addE m) acc).length <= m := by
 induction l with
 | nil => intro acc h; exact h
 | cons x l ih =>
  intro acc h
  refine ih _ ?_
  unfold addE
  split
  ·exact h
  ·rename_i h1; rw [List.length_append, List.length_singleton]; omega

theorem flat_64 (t : KT) (T : VT) : (flatE t T 64).length <= 64 := fold_max 64 _ [] (by simp)

theorem flat_in (R : Nat -> Prop) (w : World) (t : KT) (T : VT) (v : Value) (h : VShows R w T v) (m : Int) : ∀ x ∈ flatE t T m, -9223372036854775808 <= x /\ x <= 9223372036854775807 := by
 intro x hx
 rcases fold_mem m _ [] x hx with h1 | h1
 ·cases h1
 ·exact fl_in R w t T v h x h1

theorem nums_own {w : World} {B : Nat} {v : Value} {l : List Int} (h : w.ownsRow B 2 1 v l.length (l.map (Value.int .i64))) (hl : l.length <= 1000) : NumsAt (fun k => B <= k) w l v := by
 have h0 := h
 rcases h.2 with ⟨rfl, e⟩ | ⟨g, cap, cur, rfl, hb, hg, hle, _⟩
 ·exact ⟨hl, .inl ⟨List.eq_nil_of_length_eq_zero e, none, 0, rfl⟩⟩
 ·refine ⟨hl, .inr ⟨g, 0, cap, hb, rfl, hle, fun j x hj => ?_⟩⟩
  have h2 := World.ownsRow.cells (g := g) h0 rfl j (.int .i64 x) (by simp [hj])
  rw [pplain_add] at h2
  first | exact h2 | (rw [Nat.zero_add] at h2; rw [Nat.zero_add]; exact h2) | simpa using h2

theorem NumsAt.mono {B B' : Nat -> Prop} {w : World} {l : List Int} {v : Value} (h : NumsAt B w l v) (hB : ∀ k, k < w.heap.size -> B k -> B' k) : NumsAt B' w l v := by
 obtain ⟨h0, h | ⟨g, o, cap, hg, rfl, hle, hc⟩⟩ := h
 ·exact ⟨h0, .inl h⟩
 ·cases l with
  | nil => exact ⟨h0, .inl ⟨rfl, _, _, rfl⟩⟩
  | cons x l => exact ⟨h0, .inr ⟨g, o, cap, hB g (World.block_lt_of_cell? w _ (hc 0 x rfl)) hg, rfl, hle, hc⟩⟩

structure LdA (w : World) (s : Nat -> Int) (fl : List Int) (st : Nat -> Option Value) (wx : World) : Prop where
 fr : Fr (fun _ => False) w wx
 f4 : ∀ v, st 4 = some v -> NumsAt (fun k => st 6 ≠ some (pptr k) /\ w.heap.size <= k) wx fl v
 f5 : ∀ v, st 5 = some v -> ∃ nv, st 4 = some nv /\ v = .agg (regC (loadE s fl) nv)
 f6 : ∀ v, st 6 = some v -> ∃ g, v = pptr g /\ w.heap.size <= g /\ wx.heap[g]? = some (.cells (regC (fun _ => 0) (.slice none 0 0)) 92 (0, 0))

def LdIn (w : World) (s : Nat -> Int) (fl : List Int) (g : Nat) (nv : Value) (wx : World) : Prop :=
 Fr (fun _ => False) w wx /\ w.heap.size <= g /\ MAt wx g (loadE s fl) nv /\ NumsAt (fun k => k ≠ g /\ w.heap.size <= k) wx fl nv

def LdS (w : World) (s : Nat -> Int) (fl : List Int) (st : Nat -> Option Value) (wx : World) : Prop := match st 7 with
 | none => LdA w s fl st wx
 | some _ => ∃ g nv, st 6 = some (pptr g) /\ LdIn w s fl g nv wx

section
variable {w wx wy : World} {s : Nat -> Int} {fl : List Int} {st : Nat -> Option Value}

theorem LdS.a (h : LdS w s fl st wx) (h7 : st 7 = none) : LdA w s fl st wx := by
 unfold LdS at h; rw [h7] at h; exact h

theorem LdA.toS (h : LdA w s fl st wx) (h7 : st 7 = none) : LdS w s fl st wx := by
 unfold LdS; rw [h7]; exact h

theorem LdS.fr (h : LdS w s fl st wx) : Fr (fun _ => False) w wx := by
 unfold LdS at h
 split at h
 ·exact h.fr
 ·obtain ⟨g, nv, _, h1, _⟩ := h; exact h1

theorem LdA.later (h : LdA w s fl st wx) (f : Fr (fun _ => False) wx wy) : LdA w s fl st wy where
 fr := h.fr.trans f fid2
 f4 := fun v hv => (h.f4 v hv).fr f fid2
 f5 := h.f5
 f6 := fun v hv => by
  obtain ⟨g, e, hg, hc⟩ := h.f6 v hv
  exact ⟨g, e, hg, pbox_kept hc f (fun h => h)⟩

theorem LdA.call4 (h : LdA w s fl st wx) (f : Fr (fun _ => False) wx wy) (h5 : st 5 = none) {v : Value} (hv : NumsAt (fun k => wx.heap.size <= k) wy fl v) : LdA w s fl (pupd st 4 v) wy :=
 have hl := h.later f
 {fr := hl.fr
  f4 := fun u hu => by
   have e : v = u := by simpa [pupd] using hu
   subst e
   refine hv.mono fun k _ hk => ⟨fun e => ?_, by have := h.fr.size; omega⟩
   have e' : st 6 = some (pptr k) := by simpa [pupd] using e
   obtain ⟨g, eg, hg, hc⟩ := h.f6 _ e'
   have := pptr_inj eg
   have := lt_of_block hc
   omega
  f5 := fun u hu => by
   have e : st 5 = some u := by simpa [pupd] using hu
   rw [h5] at e; cases e
  f6 := fun u hu => hl.f6 u (by simpa [pupd] using hu) }

theorem LdA.call5 (h : LdA w s fl st wx) (f : Fr (fun _ => False) wx wy) {nv : Value} (h4 : st 4 = some nv) : LdA w s fl (pupd st 5 (.agg (regC (loadE s fl) nv))) wy :=
 have hl := h.later f
 {fr := hl.fr
  f4 := fun u hu => by
   have := hl.f4 u (by simpa [pupd] using hu)
   simpa [pupd] using this
  f5 := fun u hu => by
   have e : Value.agg (regC (loadE s fl) nv) = u := by simpa [pupd] using hu
   subst e
   exact ⟨nv, by simpa [pupd] using h4, rfl⟩
  f6 := fun u hu => hl.f6 u (by simpa [pupd] using hu) }

theorem LdA.alloc6 (h : LdA w s fl st wx) : LdA w s fl (pupd st 6 (pptr wx.heap.size)) (wx.alloc (.cells (regC (fun _ => 0) (.slice none 0 0)) 92)) :=
 have hl := h.later ((Fr.refl (fun _ => False) wx).alloc (.cells (regC (fun _ => 0) (.slice none 0 0)) 92))
 {fr := hl.fr
  f4 := fun u hu => by
   have e : st 4 = some u := by simpa [pupd] using hu
   refine ((h.f4 u e).mono (B' := fun k => k < wx.heap.size /\ w.heap.size <= k) (fun k hk h1 => ⟨hk, h1.2⟩)).fr ((Fr.refl (fun _ => False) wx).alloc _) fid2 |>.mono fun k _ hk => ⟨fun e => ?_, hk.2⟩
   have e' : pptr wx.heap.size = pptr k := by simpa [pupd] using e
   have := pptr_inj e'
   omega
  f5 := fun u hu => by
   obtain ⟨nv, e, e2⟩ := h.f5 u (by simpa [pupd] using hu)
   exact ⟨nv, by simpa [pupd] using e, e2⟩
  f6 := fun u hu => by
   have e : pptr wx.heap.size = u := by simpa [pupd] using hu
   subst e
   exact ⟨_, rfl, h.fr.size, heap_alloc_new _ _⟩ }

theorem LdA.store7 (h : LdA w s fl st wx) {g : Nat} {nv u : Value} (h4 : st 4 = some nv) (h6 : st 6 = some (pptr g)) : LdS w s fl (pupd st 7 u) (wx.setRow g (regC (loadE s fl) nv)) := by
 unfold LdS
 rw [pupd_at]
 obtain ⟨g', eg, hg, hc⟩ := h.f6 _ h6
 obtain rfl := pptr_inj eg
 have fs : Fr (fun k => k = g) wx (wx.setRow g (regC (loadE s fl) nv)) := Fr.setRow (S := fun k => k = g) (Fr.refl _ _) (fun _ => rfl) _
 refine ⟨g, nv, by simpa [pupd] using h6, Fr.new h.fr (fun k hk => by omega) fs, hg, setRow_heap _ _ _ _ _ _ hc, ((h.f4 nv h4).mono (B' := fun k => k ≠ g /\ w.heap.size <= k) (fun k _ hk => ⟨fun e => hk.1 (by rw [e]; exact h6), hk.2⟩)).fr fs (fun k hk e => hk.1 e)⟩
end
end
section
def PRet (R : Nat -> Prop) (w' : World) (x : (Nat -> Int) × OC) (e : Ending) : Prop :=
 ∃ ov, e = .returned (.tuple #[.agg (stC x.1), ov]) /\ OShows R w' x.2 ov

theorem results_two_rows {P : Program} {fn : Func} {p q : Tmp} {ty tz : TypeId} (h : fn.results = #[.cell p ty, .cell q tz]) (tmps : Array Value) (w : World) (g g' : Nat) (t t' : TypeId) (cs cs' : Array Value) (d d' : TypeDesc)
  (hp : tmps.getD p undef = .pointer (some ⟨g, 0, none⟩)) (hg : w.heap[g]? = some (.cells cs t (0, 0))) (hu : P.underlying ty = some d) (hd : (match d with | .struct _ | .array _ _ => true | _ => false) = true) (hi : (P.info? ty).map (·.size) = some cs.size)
  (hp' : tmps.getD q undef = .pointer (some ⟨g', 0, none⟩)) (hg' : w.heap[g']? = some (.cells cs' t' (0, 0))) (hu' : P.underlying tz = some d') (hd' : (match d' with | .struct _ | .array _ _ => true | _ => false) = true) (hi' : (P.info? tz).map (·.size) = some cs'.size) :
  (results fn tmps).run P w = .ok (.tuple #[.agg cs, .agg cs']) w := by
 have e1 : tmps[p]?.getD undef = .pointer (some ⟨g, 0, none⟩) := by simpa using hp
 have e2 : tmps[q]?.getD undef = .pointer (some ⟨g', 0, none⟩) := by simpa using hp'
 simp [results, h, e1, e2, asAddr, run_loadVar_row w g t ty cs (0, 0) d hg hu hd hi, run_loadVar_row w g' t' tz cs' (0, 0) d' hg' hu' hd' hi']

theorem Try.sizeState : (Try.prog.info? 27).map (·.size) = some 8 := by kernel_rfl
theorem Try.sizeOutcome : (Try.prog.info? 65).map (·.size) = some 6 := by kernel_rfl

theorem play_results (tmps : Array Value) (w : World) (ob vb : Nat) (s : Nat -> Int) (cs : Array Value) (hc : cs.size = 6) (h6 : tmps.getD 6 undef = .pointer (some ⟨ob, 0, none⟩)) (h7 : tmps.getD 7 undef = .pointer (some ⟨vb, 0, none⟩))
  (ho : w.heap[ob]? = some (.cells (stC s) 27 (0, 0))) (hv : w.heap[vb]? = some (.cells cs 65 (0, 0))) : (results Try.f12 tmps).run Try.prog w = .ok (.tuple #[.agg (stC s), .agg cs]) w :=
 results_two_rows (P := Try.prog) Try.results12 tmps w ob vb _ _ _ _ _ _ h6 ho Try.underlying27 rfl (by rw [Try.sizeState]; rfl) h7 hv Try.underlying65 rfl (by rw [Try.sizeOutcome, hc])

theorem play_fail (tmps : Array Value) (sb ob vb : Nat) (e : Nat) (n : Int) (s : Nat -> Int) (oldO oldV : Array Value) (w : World) (h1 : sb ≠ ob) (h2 : sb ≠ vb) (h3 : ob ≠ vb) (hs : w.heap[sb]? = some (.cells (stC s) 27 (0, 0)))
  (ho : w.heap[ob]? = some (.cells oldO 27 (0, 0))) (hoz : oldO.size = 8) (hv : w.heap[vb]? = some (.cells oldV 65 (0, 0))) (hvz : oldV.size = 6)
  (h6 : tmps.getD 6 undef = .pointer (some ⟨ob, 0, none⟩)) (h7 : tmps.getD 7 undef = .pointer (some ⟨vb, 0, none⟩)) {Rr : Ending -> World -> Prop}
  (hR : ∀ w', Fr (fun k => k = ob \/ k = vb) w w' -> Rr (.returned (.tuple #[.agg (stC s), .agg (outC e n)])) w') :
  bodyPostD Try.prog Try.f12 Rr (.panic [{ v := .iface 88 (.agg #[.int .i64 e, .int .i64 n]), recovered := false }])
   {tmps := tmps, defers := [{ target := .fn (.func 22) #[.pointer (some ⟨sb, 0, none⟩), .pointer (some ⟨ob, 0, none⟩), .pointer (some ⟨vb, 0, none⟩)], args := #[] }] } w := by
 show Leaves Try.prog Try.f12 tmps Rr _ _ w
 refine leaves_cons (f := 22) (args := #[.pointer (some ⟨sb, 0, none⟩), .pointer (some ⟨ob, 0, none⟩), .pointer (some ⟨vb, 0, none⟩)]) (by simp) (by simp [go_sem]) ?_
 refine (catch_fail sb ob vb e n s oldO oldV w h1 h2 h3 hs ho hoz hv hvz).mono ?_
 rintro e1 u' w' ⟨rfl, rfl, qo, qv, f⟩
 exact ⟨_, play_results tmps w' ob vb s (outC e n) rfl h6 h7 qo qv, hR w' f⟩

theorem play_done (tmps : Array Value) (sb ob vb : Nat) (s : Nat -> Int) (cs : Array Value) (w : World) (hc : cs.size = 6) (ho : w.heap[ob]? = some (.cells (stC s) 27 (0, 0))) (hv : w.heap[vb]? = some (.cells cs 65 (0, 0)))
  (h6 : tmps.getD 6 undef = .pointer (some ⟨ob, 0, none⟩)) (h7 : tmps.getD 7 undef = .pointer (some ⟨vb, 0, none⟩)) {Rr : Ending -> World -> Prop}
  (hR : ∀ w', Fr (fun _ => False) w w' -> Rr (.returned (.tuple #[.agg (stC s), .agg cs])) w') :
  bodyPostD Try.prog Try.f12 Rr .ret
   {tmps := tmps, defers := [{ target := .fn (.func 22) #[.pointer (some ⟨sb, 0, none⟩), .pointer (some ⟨ob, 0, none⟩), .pointer (some ⟨vb, 0, none⟩)], args := #[] }] } w := by
 show Leaves Try.prog Try.f12 tmps Rr _ _ w
 refine leaves_cons (f := 22) (args := #[.pointer (some ⟨sb, 0, none⟩), .pointer (some ⟨ob, 0, none⟩), .pointer (some ⟨vb, 0, none⟩)]) (by simp) (by simp [go_sem]) ?_
 refine (catch_idle sb ob vb w).mono ?_
 rintro e1 u' w' ⟨rfl, rfl, rfl⟩
 have f : Fr (fun _ => False) w (w.alloc (.cells #[.int .i64 0, .int .i64 0] 88)) := (Fr.refl _ _).alloc _
 exact ⟨_, play_results tmps _ ob vb s cs hc h6 h7 (pbox_kept ho f (fun h => h)) (pbox_kept hv f (fun h => h)), hR _ f⟩
end
section
structure Lay (n0 : Nat) (w w5 : World) (bv sv vv : Array Value) : Prop where
 fr : Fr (fun _ => False) w w5
 size : w5.heap.size = n0 + 5
 b : w5.heap[n0]? = some (.cells bv 40 (0, 0))
 s : w5.heap[n0 + 1]? = some (.cells sv 27 (0, 0))
 v : w5.heap[n0 + 1 + 1]? = some (.cells vv 44 (0, 0))
 o : w5.heap[n0 + 1 + 1 + 1]? = some (.cells (stC (fun _ => 0)) 27 (0, 0))
 r : w5.heap[n0 + 1 + 1 + 1 + 1]? = some (.cells (outC 0 0) 65 (0, 0))

theorem lay_five (w : World) (bv sv vv : Array Value) : Lay w.heap.size w (((((w.alloc (.cells bv 40)).alloc (.cells sv 27)).alloc (.cells vv 44)).alloc (.cells (stC (fun _ => 0)) 27)).alloc (.cells (outC 0 0) 65)) bv sv vv := by
 have f : ∀ (w : World) (o : Obj), Fr (fun _ => False) w (w.alloc o) := fun w o => (Fr.refl _ _).alloc _
 refine ⟨((((f _ _).alloc _).alloc _).alloc _).alloc _, by simp, ?_, ?_, ?_, ?_, ?_⟩
 ·exact pbox_kept (pbox_kept (pbox_kept (pbox_kept (heap_alloc_new _ _) (f _ _) (fun h => h)) (f _ _) (fun h => h)) (f _ _) (fun h => h)) (f _ _) (fun h => h)
 ·exact pbox_kept (pbox_kept (pbox_kept (new_two _ _ _) (f _ _) (fun h => h)) (f _ _) (fun h => h)) (f _ _) (fun h => h)
 ·exact pbox_kept (pbox_kept (new_three _ _ _ _) (f _ _) (fun h => h)) (f _ _) (fun h => h)
 ·have := new_three (w.alloc (.cells bv 40)) (.cells sv 27) (.cells vv 44) (.cells (stC (fun _ => 0)) 27)
  have h4 := heap_alloc_new (((w.alloc (.cells bv 40)).alloc (.cells sv 27)).alloc (.cells vv 44)) (.cells (stC (fun _ => 0)) 27)
  simp only [World.size_alloc] at h4
  exact pbox_kept h4 (f _ _) (fun h => h)
 ·have h5 := heap_alloc_new ((((w.alloc (.cells bv 40)).alloc (.cells sv 27)).alloc (.cells vv 44)).alloc (.cells (stC (fun _ => 0)) 27)) (.cells (outC 0 0) 65)
  simp only [World.size_alloc] at h5
  exact h5

def AnS (w0 : World) (rb : Nat) (BV : VT) : List Value -> World -> Prop
 | [], wx => Fr (fun _ => False) w0 wx
 | [v'], wx => Fr (fun _ => False) w0 wx /\ VShows (fun k => w0.heap.size <= k) wx BV v'
 | _, wx => Fr (fun k => k = rb) w0 wx /\ ∃ x0 x1 x2 x3, wx.heap[rb]? = some (.cells #[.int .i64 0, .int .i64 0, x0, x1, x2, x3] 65 (0, 0)) /\ VShows (fun k => w0.heap.size <= k) wx BV (.agg #[x0, x1, x2, x3])

theorem AnS.fr {w0 : World} {rb : Nat} {BV : VT} {l : List Value} {wx : World} (h : AnS w0 rb BV l wx) : Fr (fun k => k = rb) w0 wx := by
 match l, h with
 | [], h => exact h.mono (fun _ _ h => h.elim)
 | [_], h => exact h.1.mono (fun _ _ h => h.elim)
 | _ :: _ :: _, h => exact h.1

def CoS (w0 : World) (ob : Nat) (r : Nat -> Int) : List Value -> World -> Prop
 | [], wx => Fr (fun _ => False) w0 wx
 | _, wx => Fr (fun k => k = ob) w0 wx /\ wx.heap[ob]? = some (.cells (stC r) 27 (0, 0))

theorem all_one (x0 x1 x2 x3 : Value) (on : ∀ u ∈ [x0, x1, x2, x3], u.oneCell' = true) : (#[.int .i64 0, .int .i64 0, x0, x1, x2, x3] : Array Value).all (·.oneCell') = true := by
 simp at on
 have e : ∀ n, (Value.int .i64 n).oneCell' = true := fun _ => rfl
 simp [e, on]

def OutS (w0 : World) (ob rb : Nat) (so co : Array Value) (wx : World) : Prop :=
 Fr (fun k => k = ob \/ k = rb) w0 wx /\ wx.heap[ob]? = some (.cells so 27 (0, 0)) /\ wx.heap[rb]? = some (.cells co 65 (0, 0))

theorem copy_out (w : World) (ob g : Nat) (ty : TypeId) (r : Nat -> Int) (nv : Value) (ho : w.heap[ob]? = some (.cells (stC (fun _ => 0)) 27 (0, 0))) (hm : MAt w g r nv) :
  (Builtin.copy_ #[28, 28] ty #[.slice (some ⟨ob, 0, none⟩) 8 8, .slice (some ⟨g, 0, none⟩) 8 16]).run Try.prog w = .ok (.int .i64 8) (w.setRow ob (stC r)) := by
 have := run_copy_row (P := Try.prog) w 28 28 ty 2 ob 0 8 8 ⟨g, 0, none⟩ 8 16 (stC (fun _ => 0)) 27 (stC r).toList Try.underlying28 Try.infoInt64 ho rfl
  (by
   intro j v hj
   have hj8 : j < 8 := by have := (List.getElem?_eq_some_iff.1 hj).1; simpa [stC] using this
   rw [pplain_add, Nat.zero_add, hm.cell j (by omega), <- hj]
   have : j = 0 \/ j = 1 \/ j = 2 \/ j = 3 \/ j = 4 \/ j = 5 \/ j = 6 \/ j = 7 := by omega
   rcases this with rfl | rfl | rfl | rfl | rfl | rfl | rfl | rfl <;> rfl) (by simp [stC]) (by simp [stC, Value.oneCell'])
 rw [show ((stC (fun _ => 0)).toList.take 0 ++ (stC r).toList ++ (stC (fun _ => 0)).toList.drop (0 + (stC r).toList.length)).toArray = stC r from rfl] at this
 exact this

theorem nums_regs {w : World} {g : Nat} {r : Nat -> Int} {nv : Value} (h : MAt w g r nv) (hr : RIn r) : Nums (fun _ => True) w (regs r) (.slice (some ⟨g, 8, none⟩) 8 8) := by
 refine ⟨by simp [regs], ?_, .inr ⟨g, 8, 8, trivial, by simp [regs], by simp [regs], ?_⟩⟩
 ·intro x hx
  simp only [regs, List.mem_cons, List.not_mem_nil, or_false] at hx
  rcases hx with rfl | rfl | rfl | rfl | rfl | rfl | rfl | rfl <;> exact hr _
 ·intro j x hj
  have hj8 : j < 8 := by have := (List.getElem?_eq_some_iff.1 hj).1; simpa [regs] using this
  have e : x = r (8 + j) := by
   have : j = 0 \/ j = 1 \/ j = 2 \/ j = 3 \/ j = 4 \/ j = 5 \/ j = 6 \/ j = 7 := by omega
   rcases this with rfl | rfl | rfl | rfl | rfl | rfl | rfl | rfl <;> (simp [regs] at hj; exact hj.symm)
  rw [e]
  exact h.cell (8 + j) (by omega)

theorem psub_of {w : World} {v : Value} {l : List Ins} (h : PSees w v l) (hl : l.length <= 100) : PSub (fun k => k < w.heap.size) w v l := by
 cases l with
 | nil =>
  obtain ⟨a, c, rfl, _⟩ := h.shape
  exact ⟨hl, .inl ⟨rfl, a, c, rfl⟩⟩
 | cons x l =>
  refine h.sub hl (fun k hk => ?_)
  rcases h with ⟨h, _⟩ | ⟨g, cap, rfl, _, hc⟩
  ·cases h
  ·have e : g = k := by simpa [Value.ownBlock] using hk
   subst e
   exact hc.lt (by simp)

theorem PSub.mono {B B' : Nat -> Prop} {w : World} {v : Value} {l : List Ins} (h : PSub B w v l) (hB : ∀ k, B k -> B' k) : PSub B' w v l := by
 obtain ⟨h0, h | ⟨g, o, cap, hg, rest⟩⟩ := h
 ·exact ⟨h0, .inl h⟩
 ·exact ⟨h0, .inr ⟨g, o, cap, hB g hg, rest⟩⟩

attribute [local go_sem] run_store_float

set_option maxRecDepth 100000 in
theorem Play_any (R : Nat -> Prop) (t a : KT) (p : List Ins) (T : VT) (s : Nat -> Int) (t0 t1 t2 t3 a0 a1 a2 a3 pv v0 v1 v2 v3 : Value) (w : World) (hp : PSees w pv p) (hf : ∀ x ∈ p, x.Fits) (hl : p.length <= 100) (ht : Shows R w t (.agg #[t0, t1, t2, t3])) (ha : Shows R w a (.agg #[a0, a1, a2, a3])) (hT : VShows R w T (.agg #[v0, v1, v2, v3]))
  (hsz : szV T <= 100000) (hc : costE a <= 100000) (hva : ∀ l, isVal a (BuildE l a) = true) (hs : ∀ k, k < 8 -> -9223372036854775808 <= s k /\ s k <= 9223372036854775807) :
  Calls Try.prog 12 #[.agg #[t0, t1, t2, t3, a0, a1, a2, a3, pv], .agg (stC s), .agg #[v0, v1, v2, v3]] w fun e w' => PRet (fun k => w.heap.size <= k) w' (playE t a p T s) e /\ Fr (fun _ => False) w w' := by
 have hmf : ∀ (fn : Fn) (first cap : Array Value) (w : World), (Instr.makeFunc fn first cap).run Try.prog w = .ok (.func fn first cap) w := fun _ _ _ _ => rfl
 obtain ⟨w5, hw5⟩ : ∃ w5, w5 = (((((w.alloc (.cells #[t0, t1, t2, t3, a0, a1, a2, a3, pv] 40)).alloc (.cells (stC s) 27)).alloc (.cells #[v0, v1, v2, v3] 44)).alloc (.cells (stC (fun _ => 0)) 27)).alloc (.cells (outC 0 0) 65)) := ⟨_, rfl⟩
 have L : Hid (Lay w.heap.size w w5 #[t0, t1, t2, t3, a0, a1, a2, a3, pv] (stC s) #[v0, v1, v2, v3]) := hid (by rw [hw5]; exact lay_five _ _ _ _)
 have HA := hid (And.intro hp (And.intro hf (And.intro hl (And.intro ht (And.intro ha (And.intro hT (And.intro hsz (And.intro hc (And.intro hva hs)))))))))
 generalize hX : playE t a p T s = X
 have HX := hid hX.symm
 clear hX hp hf hl ht ha hT hsz hc hva hs
 simp only [stC, outC] at hw5
 simp only [stC]
 go_enter_defers Try.func12, Try.ntmps12
 go_wp2_with fail
 rw [show ((0 : Nat) : Int) = 0 from rfl] at hw5
 rw [<- hw5]
 clear hw5
 generalize hn : w.heap.size = n0 at *
 have N0 := hid hn
 clear hn
 have hck := pcheck_call R t T p t0 t1 t2 t3 a0 a1 a2 a3 pv v0 v1 v2 v3 w5 (HA.out.1.fr L.out.fr fid2) HA.out.2.2.1 (Shows.fr L.out.fr fid2 _ _ HA.out.2.2.2.1) (VShows.fr L.out.fr fid2 _ _ HA.out.2.2.2.2.2.1) HA.out.2.2.2.2.2.2.1
 refine hck.mono ?_
 rintro e6 w6 ⟨he6, f6⟩
 have F6 := hid f6
 clear f6 hck
 have fail_end : ∀ (en : Nat) (m : Int) (wx : World), Fr (fun _ => False) w5 wx -> X = (s, ⟨en, m, zeroV⟩) -> True := fun _ _ _ _ _ => trivial
 clear fail_end
 by_cases hc0 : pcheckE p = 0
 ·by_cases hv0 : isVal t T = true
  ·rw [if_neg (by simp [hc0]), if_neg (by simp [hv0])] at he6
   subst he6
   have HX2 : Hid (X = match runE (sumE (flatE t T 64)) 1 p (loadE s (flatE t T 64)) with
     | .bad e n => (s, ⟨e, n, zeroV⟩)
     | .ok _ r => (r, ⟨0, 0, BuildE (regs r) a⟩)) := hid (by rw [HX.out]; unfold playE; rw [if_neg (by simp [hc0]), if_neg (by simp [hv0])] <;> (cases runE (sumE (flatE t T 64)) 1 p (loadE s (flatE t T 64)) <;> rfl))
   have HFL := hid (fun (wx : World) (fx : Fr (fun _ => False) w6 wx) => Flat_any R t T _ _ wx 64 (Shows.fr ((L.out.fr.trans F6.out fid2).trans fx fid2) fid2 _ _ HA.out.2.2.2.1) (VShows.fr ((L.out.fr.trans F6.out fid2).trans fx fid2) fid2 _ _ HA.out.2.2.2.2.2.1) HA.out.2.2.2.2.2.2.1 hv0)
   have H64 := hid (flat_64 t T)
   have HRI := hid (load_in s (flatE t T 64) HA.out.2.2.2.2.2.2.2.2.2 (flat_in R w t T _ HA.out.2.2.2.2.2.1 64))
   have HWL := hid (well_check p HA.out.2.1 hc0)
   have HCK := hid hc0
   generalize hfl : flatE t T 64 = fl at *
   clear hfl hc0 hv0
   go_wp2_with fail
   refine wp_region_links (by kernel_rfl) [some 13, some 14, some 15, some 16, some 17, some 18, some 8, none] rfl (by decide) (by intro d hd; simp at hd ⊢; omega)
    (fun st wx => LdS w6 s fl st wx)
    [.free (.agg (stC s)), .free (.pointer (some ⟨n0, 0, none⟩)), .free (.agg #[t0, t1, t2, t3]), .free (.agg #[v0, v1, v2, v3]), .link none, .link none, .link none, .link none]
    (by kernel_rfl) ?h0 ?step ?fin
   case h0 => exact LdA.toS ⟨(Fr.refl _ _).drew, fun v h => (by cases h), fun v h => (by cases h), fun v h => (by cases h)⟩ rfl
   case step =>
    intro vals
    simp only [frOfU, fillU, zsl]
    repeat' (first | exact AllOps.nil | refine AllOps.cons ?_ ?_)
    all_goals
     intro st wx hS he hu hn K hK
     simp only [Act.put, zsl, zgl, stC] at hK
     simp only [zml, Region.binds, forall_const, vmode_gc, Bool.false_eq_true, false_imp_iff, zgl, OpSort.val, OpSort.isLink, Option.some.injEq, forall_eq', reduceCtorEq, implies_true, true_and, and_true, stC] at he
     have fx := F6.out.trans hS.fr fid2
     have qb := pbox_kept L.out.b fx (fun h => h)
     have qs := pbox_kept L.out.s fx (fun h => h)
     have qv := pbox_kept L.out.v fx (fun h => h)
     have b0 := pcells_row qb 0 _ rfl
     have b1 := pcells_row qb 1 _ rfl
     have b2 := pcells_row qb 2 _ rfl
     have b3 := pcells_row qb 3 _ rfl
     have s0 := pcells_row qs 0 _ rfl
     have s1 := pcells_row qs 1 _ rfl
     have s2 := pcells_row qs 2 _ rfl
     have s3 := pcells_row qs 3 _ rfl
     have s4 := pcells_row qs 4 _ rfl
     have s5 := pcells_row qs 5 _ rfl
     have s6 := pcells_row qs 6 _ rfl
     have s7 := pcells_row qs 7 _ rfl
     have u0 := pcells_row qv 0 _ rfl
     have u1 := pcells_row qv 1 _ rfl
     have u2 := pcells_row qv 2 _ rfl
     have u3 := pcells_row qv 3 _ rfl
     clear fx qb qs qv
     have HSX := hid hS
     clear hS
    all_goals first | (clear hu hn; (try simp only [he] at hK ⊢); go_simp; exact hK) | skip
    ·have h7 := (hu 7 (by simp) (by kernel_rfl)).2
     have h5 := (hu 5 (by simp) (by kernel_rfl)).2
     have ha := hid (HSX.out.a h7)
     clear hu hn
     simp only [he] at hK ⊢
     go_simp
     go_at_call 25
     refine (HFL.out wx ha.out.fr).mono ?_
     rintro q1 wa ⟨nv, rfl, hown, fa⟩
     exact hK _ _ (fun _ h => by cases h) (LdA.toS (ha.out.call4 fa h5 (nums_own hown (by have := H64.out; omega))) h7)
    ·have h7 := (hu 7 (by simp) (by kernel_rfl)).2
     have ha := hid (HSX.out.a h7)
     have h4 := hid he.2.1
     have he1 := he.1
     clear hu hn he
     simp only [he1] at hK ⊢
     go_simp
     go_at_call 24
     refine (load_any _ s fl _ wx (ha.out.f4 _ h4.out)).mono ?_
     rintro q1 wa ⟨rfl, fa⟩
     exact hK _ _ (fun _ h => by cases h) (LdA.toS (ha.out.call5 fa h4.out) h7)
    ·have h7 := (hu 7 (by simp) (by kernel_rfl)).2
     have ha := hid (HSX.out.a h7)
     clear hu hn
     go_simp
     exact hK _ _ (fun _ h => by cases h) (LdA.toS ha.out.alloc6 h7)
    ·have ha := hid (HSX.out.a hn)
     have k6 := he.1
     have k5 := he.2.1
     obtain ⟨nv, k4, e5⟩ := ha.out.f5 _ k5
     obtain ⟨g, e6, hg, hcm⟩ := ha.out.f6 _ k6
     obtain ⟨xa, xc, enx, _⟩ := (ha.out.f4 _ k4).shape
     have k6' : st 6 = some (pptr g) := by rw [k6, e6]
     clear hu hn he k5 k6
     unfold pptr at e6
     simp only [e6, e5] at hK ⊢
     simp only [Region.wanted, if_true]
     refine wp_store_row 92 (.tmp 8) (.tmp 18) rfl g (regC (loadE s fl) nv) rfl rfl 92 (regC (fun _ => 0) (.slice none 0 0)) hcm (by kernel_rfl) rfl (by simp [regC, Value.oneCell', enx]) ?_
     exact hK undef _ (fun _ h => by cases h) (ha.out.store7 k4 k6')
   case fin =>
    intro vals w7 hS hV
    have key : ∃ g nv, vals 6 = .pointer (some ⟨g, 0, none⟩) /\ LdIn w6 s fl g nv w7 := by
     obtain ⟨g, nv, e6, hin⟩ := hS
     exact ⟨g, nv, by simpa [pptr, OpSort.isLink] using e6, hin⟩
    obtain ⟨g, nv, e6, hin⟩ := key
    have HI := hid hin
    clear hS hV hin
    simp only [frOfU, fillU, zsl, e6]
    clear e6
    have hn0 := N0.out
    have h6s : n0 + 5 <= g := by have := L.out.size; have := F6.out.size; have := HI.out.2.1; omega
    have f7 := (L.out.fr.trans F6.out fid2).trans HI.out.1 fid2
    have F7 := hid f7
    have F57 := hid (F6.out.trans HI.out.1 fid2)
    have qb8 := pcells_row (pbox_kept L.out.b F57.out (fun h => h)) 8 _ rfl
    have HE := hid (exec_any 1 (fun k => k ≠ g) p pv g (loadE s fl) nv fl w7 HWL.out (fun _ h => h) ((psub_of HA.out.1 HA.out.2.2.1).mono (fun k hk => by omega) |>.fr f7 fid2) HI.out.2.2.1 (HI.out.2.2.2.mono (fun _ _ h => h.1)))
    clear f7
    cases hr : runE (sumE fl) 1 p (loadE s fl) with
    | bad en m =>
     rw [hr] at HE HX2
     have HE2 : Hid (Calls Try.prog 26 #[.pointer (some ⟨g, 0, none⟩), pv] w7 fun e1 w8 => e1 = failV en m /\ Fr (fun k => k = g) w7 w8) := hid HE.out
     have HX3 := hid (show X = (s, ⟨en, m, zeroV⟩) from HX2.out)
     clear HE HX2 hr
     go_wp2_with fail
     refine HE2.out.mono ?_
     rintro e8 w8 ⟨rfl, f8⟩
     simp only [failV]
     have g57 : Fr (fun k => k = g) w5 w8 := (F57.out.mono (fun _ _ h => h.elim)).trans f8 fid2
     refine play_fail _ (n0 + 1) (n0 + 1 + 1 + 1) (n0 + 1 + 1 + 1 + 1) en m s (stC (fun _ => 0)) (outC 0 0) w8 (by omega) (by omega) (by omega) (pbox_kept L.out.s g57 (fun h => by omega)) (pbox_kept L.out.o g57 (fun h => by omega)) rfl (pbox_kept L.out.r g57 (fun h => by omega)) rfl rfl rfl ?_
     intro w9 f9
     rw [HX3.out]
     exact ⟨⟨_, rfl, _, _, _, _, rfl, zeroV_shows _ _⟩, Fr.new (Fr.new F7.out (fun k hk => by omega) f8) (fun k hk => by omega) f9⟩
    | ok bb r =>
     have hri := prun_in (sumE fl) (sum_in fl) 1 p (loadE s fl) bb r HA.out.2.1 HRI.out hr
     rw [hr] at HE HX2
     have HE2 : Hid (Calls Try.prog 26 #[.pointer (some ⟨g, 0, none⟩), pv] w7 fun e1 w8 => e1 = .returned (.bool bb) /\ MAt w8 g r nv /\ Fr (fun k => k = g) w7 w8) := hid HE.out
     have HX3 := hid (show X = (r, ⟨0, 0, BuildE (regs r) a⟩) from HX2.out)
     clear HE HX2 hr
     go_wp2_with fail
     refine HE2.out.mono ?_
     rintro e8 w8 ⟨rfl, m8, f8⟩
     have g8 : Fr (fun k => k = g) w5 w8 := (F57.out.mono (fun _ _ h => h.elim)).trans f8 fid2
     have G8 : Hid (Fr (fun k => k = g) w5 w8 /\ MAt w8 g r nv /\ Fr (fun _ => False) w w8) := hid ⟨g8, m8, Fr.new F7.out (fun k hk => by omega) f8⟩
     have hgz : g < w8.heap.size := lt_of_block m8
     have hrz : n0 + 1 + 1 + 1 + 1 < w8.heap.size := by omega
     have GZ := hid (And.intro h6s (And.intro hgz hrz))
     have HAN := hid (fun wx (fx : Fr (fun _ => False) w8 wx) => answer_any (fun _ => True) a (regs r) t0 t1 t2 t3 a0 a1 a2 a3 pv _ wx (Shows.fr (G8.out.2.2.trans fx fid2) fid2 _ _ (Shows.mono (fun _ _ _ => trivial) _ _ HA.out.2.2.2.2.1)) (nums_regs (G8.out.2.1.fr fx (fun h => h)) hri) HA.out.2.2.2.2.2.2.2.1 (HA.out.2.2.2.2.2.2.2.2.1 _))
     have qb := hid (pbox_kept L.out.b g8 (fun h => by omega))
     have qr := hid (pbox_kept L.out.r g8 (fun h => by omega))
     generalize hBV : BuildE (regs r) a = BV at *
     clear hBV m8 f8 g8 qb8 hri hgz hrz h6s
     go_wp2_with fail
     refine wp_region_chain (by kernel_rfl) [some 22, some 23, some 24, some 25, some 26, none] rfl (by decide) (by intro d hd; simp at hd ⊢; omega)
      [3, 5] (AnS w8 (n0 + 1 + 1 + 1 + 1) BV)
      [.free (.agg #[t0, t1, t2, t3, a0, a1, a2, a3, pv]), .free (.pointer (some ⟨g, 0, none⟩)), .free (.slice (some ⟨g, 8, none⟩) 8 8), .link none, .free (.pointer (some ⟨n0 + 1 + 1 + 1 + 1, 2, none⟩)), .link none]
      (by kernel_rfl) (by kernel_rfl) ?h0 ?step ?fin
     case h0 => exact (Fr.refl _ _).drew
     case step =>
      intro vals
      simp only [frOfU, fillU, zsl]
      repeat' (first | exact AllOps.nil | refine AllOps.cons ?_ ?_)
      all_goals
       intro cvs wx hS he hu hlim K hK
       clear hu
       simp only [Act.put, zsl, zgl] at hK
       simp only [zml, Region.binds, forall_const, vmode_gc, Bool.false_eq_true, false_imp_iff, zgl, OpSort.val, Option.some.injEq, forall_eq', reduceCtorEq, implies_true, true_and, and_true] at he
       have q := pbox_kept qb.out hS.fr (fun h => by omega)
       have b0 := pcells_row q 0 _ rfl
       have b1 := pcells_row q 1 _ rfl
       have b2 := pcells_row q 2 _ rfl
       have b3 := pcells_row q 3 _ rfl
       have b4 := pcells_row q 4 _ rfl
       have b5 := pcells_row q 5 _ rfl
       have b6 := pcells_row q 6 _ rfl
       have b7 := pcells_row q 7 _ rfl
       have b8 := pcells_row q 8 _ rfl
       clear q
       have HSX := hid hS
       clear hS
      all_goals first | (clear hlim; (try simp only [he] at hK ⊢); go_simp; exact hK) | skip
      ·obtain rfl := hlim (0 : Nat) rfl
       have h1 : Fr (fun _ => False) w8 wx := HSX.out
       have H1 := hid h1
       clear h1 hlim HSX
       simp only [he] at hK ⊢
       go_simp
       go_at_call 27
       refine (HAN.out wx H1.out).mono ?_
       rintro q1 wa ⟨v', rfl, hv, fa⟩
       exact hK _ _ (fun _ h => by cases h) ⟨H1.out.trans fa fid2, VShows.mono (fun k _ hk => Nat.le_trans H1.out.size hk) _ _ hv⟩
      ·obtain rfl := hlim (1 : Nat) rfl
       have h1 : Fr (fun _ => False) w8 wx /\ VShows (fun k => w8.heap.size <= k) wx BV (vals 3) := HSX.out
       clear hlim HSX
       obtain ⟨hf1, hv1⟩ := h1
       obtain ⟨zn, zf, zs, za, zc, zcap, e4⟩ := hv1.lit
       rw [e4] at hv1
       have qx := pbox_kept qr.out hf1 (fun h => h)
       have y2 := pcells_row qx 2 _ rfl
       have y3 := pcells_row qx 3 _ rfl
       have y4 := pcells_row qx 4 _ rfl
       have y5 := pcells_row qx 5 _ rfl
       have z2 : wx.frozen? ⟨n0 + 1 + 1 + 1 + 1, 2, none⟩ = false := by simp [World.frozen?, qx]
       have z3 : wx.frozen? ⟨n0 + 1 + 1 + 1 + 1, 3, none⟩ = false := by simp [World.frozen?, qx]
       have z4 : wx.frozen? ⟨n0 + 1 + 1 + 1 + 1, 4, none⟩ = false := by simp [World.frozen?, qx]
       have z5 : wx.frozen? ⟨n0 + 1 + 1 + 1 + 1, 5, none⟩ = false := by simp [World.frozen?, qx]
       have QX := hid (And.intro hf1 (And.intro hv1 qx))
       clear hf1 hv1 qx b0 b1 b2 b3 b4 b5 b6 b7 b8
       simp only [he, e4] at hK ⊢
       go_simp
       have fs : ∀ (u2 u3 u4 u5 : Value), Fr (fun k => k = n0 + 1 + 1 + 1 + 1) wx ((((wx.setCell ⟨n0 + 1 + 1 + 1 + 1, 2, none⟩ u2).setCell ⟨n0 + 1 + 1 + 1 + 1, 3, none⟩ u3).setCell ⟨n0 + 1 + 1 + 1 + 1, 4, none⟩ u4).setCell ⟨n0 + 1 + 1 + 1 + 1, 5, none⟩ u5) := fun u2 u3 u4 u5 =>
        Fr.setCell (S := fun k => k = n0 + 1 + 1 + 1 + 1) (Fr.setCell (S := fun k => k = n0 + 1 + 1 + 1 + 1) (Fr.setCell (S := fun k => k = n0 + 1 + 1 + 1 + 1) (Fr.setCell (S := fun k => k = n0 + 1 + 1 + 1 + 1) (Fr.refl _ _) (fun _ => rfl) _) (fun _ => rfl) _) (fun _ => rfl) _) (fun _ => rfl) _
       exact hK undef _ (fun _ h => by cases h) ⟨(QX.out.1.mono (fun _ _ h => h.elim)).trans (fs _ _ _ _) fid2, _, _, _, _, psetCell_row 5 _ (psetCell_row 4 _ (psetCell_row 3 _ (psetCell_row 2 _ QX.out.2.2))), VShows.fr (fs _ _ _ _) (fun k hk h => by have := GZ.out; omega) _ _ QX.out.2.1⟩
     case fin =>
      intro vals w9 hS hV
      clear hV
      simp only [List.map_cons, List.map_nil] at hS
      obtain ⟨f9, x0, x1, x2, x3, q9, hv9⟩ := hS
      have G9 := hid (And.intro f9 (And.intro q9 hv9))
      have go9 : w9.heap[n0 + 1 + 1 + 1]? = some (.cells (stC (fun _ => 0)) 27 (0, 0)) := pbox_kept (pbox_kept L.out.o G8.out.1 (fun h => by have := GZ.out; omega)) f9 (fun h => by omega)
      have m9 : MAt w9 g r nv := G8.out.2.1.fr f9 (fun h => by have := GZ.out; omega)
      have M9 := hid (And.intro go9 m9)
      clear f9 q9 hv9 go9 m9
      simp only [frOfU, fillU, zsl]
      go_wp2_with fail
      refine wp_region_chain (by kernel_rfl) [some 27, some 28, some 29, some 30] rfl (by decide) (by intro d hd; simp at hd ⊢; omega)
       [3] (CoS w9 (n0 + 1 + 1 + 1) r)
       [.free (.slice (some ⟨n0 + 1 + 1 + 1, 0, none⟩) 8 8), .free (.pointer (some ⟨g, 0, none⟩)), .free (.slice (some ⟨g, 0, none⟩) 8 16), .link none]
       (by kernel_rfl) (by kernel_rfl) ?h0 ?step ?fin
      case h0 => exact (Fr.refl _ _).drew
      case step =>
       intro vals2
       simp only [frOfU, fillU, zsl]
       repeat' (first | exact AllOps.nil | refine AllOps.cons ?_ ?_)
       all_goals
        intro cvs wx hS he hu hlim K hK
        clear hu
        simp only [Act.put, zsl, zgl] at hK
        simp only [zml, Region.binds, forall_const, vmode_gc, Bool.false_eq_true, false_imp_iff, zgl, OpSort.val, Option.some.injEq, forall_eq', reduceCtorEq, implies_true, true_and, and_true] at he
        have HSX := hid hS
        clear hS
       all_goals first | (clear hlim; (try simp only [he] at hK ⊢); go_simp; exact hK) | skip
       ·obtain rfl := hlim (0 : Nat) rfl
        have h1 : Fr (fun _ => False) w9 wx := HSX.out
        have hcp := copy_out wx (n0 + 1 + 1 + 1) g 3 r nv (pbox_kept M9.out.1 h1 (fun h => h)) (M9.out.2.fr h1 (fun h => h))
        have H1 := hid h1
        clear h1 hlim HSX
        simp only [he] at hK ⊢
        go_simp
        exact hK _ _ (fun _ h => by cases h) ⟨Fr.setRow (S := fun k => k = n0 + 1 + 1 + 1) (H1.out.mono (fun _ _ h => h.elim)) (fun _ => rfl) _, setRow_heap _ _ _ _ _ _ (pbox_kept M9.out.1 H1.out (fun h => h))⟩
      case fin =>
       intro vals2 w10 hS hV
       clear hV
       simp only [List.map_cons, List.map_nil] at hS
       obtain ⟨f10, q10⟩ := hS
       have r10 := pbox_kept G9.out.2.1 f10 (fun h => by omega)
       have hv10 := VShows.fr f10 (fun k hk h => by have := GZ.out; omega) _ _ G9.out.2.2
       have G10 := hid (And.intro f10 (And.intro q10 (And.intro r10 hv10)))
       have one := vshows_one hv10
       have ONE := hid one
       clear f10 q10 r10 hv10 one
       simp only [frOfU, fillU, zsl]
       go_wp2_with fail
       refine wp_region_chain (by kernel_rfl) [some 31, some 32, none, none] rfl (by decide) (by intro d hd; simp at hd ⊢; omega)
        [2, 3] (fun _ wx => OutS w10 (n0 + 1 + 1 + 1) (n0 + 1 + 1 + 1 + 1) (stC r) #[.int .i64 0, .int .i64 0, x0, x1, x2, x3] wx)
        [.free (.agg (stC r)), .free (.agg #[.int .i64 0, .int .i64 0, x0, x1, x2, x3]), .link none, .link none]
        (by kernel_rfl) (by kernel_rfl) ?h0 ?step ?fin
       case h0 => exact ⟨(Fr.refl _ _).drew, G10.out.2.1, G10.out.2.2.1⟩
       case step =>
        intro vals3
        simp only [frOfU, fillU, zsl]
        repeat' (first | exact AllOps.nil | refine AllOps.cons ?_ ?_)
        all_goals
         intro cvs wx hS he hu hlim K hK
         clear hu
         simp only [Act.put, zsl, zgl, stC] at hK
         simp only [zml, Region.binds, forall_const, vmode_gc, Bool.false_eq_true, false_imp_iff, zgl, OpSort.val, Option.some.injEq, forall_eq', reduceCtorEq, implies_true, true_and, and_true, stC] at he
         have s0 := pcells_row hS.2.1 0 _ rfl
         have s1 := pcells_row hS.2.1 1 _ rfl
         have s2 := pcells_row hS.2.1 2 _ rfl
         have s3 := pcells_row hS.2.1 3 _ rfl
         have s4 := pcells_row hS.2.1 4 _ rfl
         have s5 := pcells_row hS.2.1 5 _ rfl
         have s6 := pcells_row hS.2.1 6 _ rfl
         have s7 := pcells_row hS.2.1 7 _ rfl
         have y0 := pcells_row hS.2.2 0 _ rfl
         have y1 := pcells_row hS.2.2 1 _ rfl
         have y2 := pcells_row hS.2.2 2 _ rfl
         have y3 := pcells_row hS.2.2 3 _ rfl
         have y4 := pcells_row hS.2.2 4 _ rfl
         have y5 := pcells_row hS.2.2 5 _ rfl
         have HSX := hid hS
         clear hS
        all_goals first | (clear hlim; (try simp only [he] at hK ⊢); go_simp; exact hK) | skip
        ·clear hlim
         simp only [he] at hK ⊢
         simp only [Region.wanted, if_true]
         refine wp_store_row 27 (.tmp 6) (.tmp 31) rfl (n0 + 1 + 1 + 1) (stC r) rfl rfl 27 (stC r) HSX.out.2.1 (by rw [Try.sizeState]; rfl) rfl (by simp [stC, Value.oneCell']) ?_
         exact hK undef _ (fun _ h => by cases h) ⟨Fr.setRow HSX.out.1 (fun _ => .inl rfl) _, setRow_heap _ _ _ _ _ _ HSX.out.2.1, (setRow_other _ _ _ _ (by omega)).trans HSX.out.2.2⟩
        ·clear hlim
         have on := ONE.out
         simp only [he] at hK ⊢
         simp only [Region.wanted, if_true]
         refine wp_store_row 65 (.tmp 7) (.tmp 32) rfl (n0 + 1 + 1 + 1 + 1) #[.int .i64 0, .int .i64 0, x0, x1, x2, x3] rfl rfl 65 #[.int .i64 0, .int .i64 0, x0, x1, x2, x3] HSX.out.2.2 (by rw [Try.sizeOutcome]; rfl) rfl (all_one x0 x1 x2 x3 on) ?_
         exact hK undef _ (fun _ h => by cases h) ⟨Fr.setRow HSX.out.1 (fun _ => .inr rfl) _, (setRow_other _ _ _ _ (by omega)).trans HSX.out.2.1, setRow_heap _ _ _ _ _ _ HSX.out.2.2⟩
       case fin =>
        intro vals3 w11 hS hV
        clear hV
        have HS := hid hS
        clear hS
        simp only [frOfU, fillU, zsl]
        go_wp2_with fail
        refine play_done _ (n0 + 1) (n0 + 1 + 1 + 1) (n0 + 1 + 1 + 1 + 1) r #[.int .i64 0, .int .i64 0, x0, x1, x2, x3] w11 rfl HS.out.2.1 HS.out.2.2 rfl rfl ?_
        intro w12 f12
        rw [HX3.out]
        have hgz := GZ.out
        refine ⟨⟨_, rfl, _, _, _, _, rfl, VShows.mono (fun k _ hk => by have := hk; omega) _ _ (VShows.fr f12 fid2 _ _ (VShows.fr HS.out.1 (fun k hk h => by have := hk; omega) _ _ G10.out.2.2.2))⟩, ?_⟩
        exact (Fr.new (Fr.new (Fr.new G8.out.2.2 (fun k hk => by omega) G9.out.1) (fun k hk => by omega) G10.out.1) (fun k hk => by omega) HS.out.1).trans f12 fid2
  ·rw [if_neg (by simp [hc0]), if_pos (by simpa using hv0)] at he6
   subst he6
   simp only [failV]
   have HXe : X = (s, ⟨17, 0, zeroV⟩) := by rw [HX.out]; unfold playE; rw [if_neg (by simp [hc0]), if_pos (by simpa using hv0)]
   refine play_fail _ (n0 + 1) (n0 + 1 + 1 + 1) (n0 + 1 + 1 + 1 + 1) 17 0 s (stC (fun _ => 0)) (outC 0 0) w6 (by omega) (by omega) (by omega) (pbox_kept L.out.s F6.out (fun h => h)) (pbox_kept L.out.o F6.out (fun h => h)) rfl (pbox_kept L.out.r F6.out (fun h => h)) rfl rfl rfl ?_
   intro w7 f7
   rw [HXe]
   exact ⟨⟨_, rfl, _, _, _, _, rfl, zeroV_shows _ _⟩, Fr.new (L.out.fr.trans F6.out fid2) (fun k hk => by have := N0.out; omega) f7⟩
 ·rw [if_pos hc0] at he6
  subst he6
  simp only [failV]
  have HXe : X = (s, ⟨14, 0, zeroV⟩) := by rw [HX.out]; unfold playE; rw [if_pos hc0]
  refine play_fail _ (n0 + 1) (n0 + 1 + 1 + 1) (n0 + 1 + 1 + 1 + 1) 14 0 s (stC (fun _ => 0)) (outC 0 0) w6 (by omega) (by omega) (by omega) (pbox_kept L.out.s F6.out (fun h => h)) (pbox_kept L.out.o F6.out (fun h => h)) rfl (pbox_kept L.out.r F6.out (fun h => h)) rfl rfl rfl ?_
  intro w7 f7
  rw [HXe]
  exact ⟨⟨_, rfl, _, _, _, _, rfl, zeroV_shows _ _⟩, Fr.new (L.out.fr.trans F6.out fid2) (fun k hk => by have := N0.out; omega) f7⟩
end
section
def stEq (s s' : Nat -> Int) : Bool := (List.range 8).all fun i => s i == s' i

theorem stEq_iff (s s' : Nat -> Int) : stEq s s' = true ↔ ∀ i, i < 8 -> s i = s' i := by
 unfold stEq
 simp

theorem Try.sizeOfInt64 (w : World) : (sizeOf 2).run Try.prog w = .ok 1 w := by kernel_rfl

theorem equal_states (d : Nat) (s s' : Nat -> Int) (w : World) : (Op.equalIn (d + 2) 27 (.agg (stC s)) (.agg (stC s'))).run Try.prog w = .ok (stEq s s') w := by
 unfold stEq
 rw [List.range_eq_range', Op.equalIn]
 simp only [Sem.run_bind, run_underlying Try.underlying27, Result.andThen_ok, Try.sizeOfInt64, Std.Legacy.Range.forIn_eq_forIn_range', Std.Legacy.Range.size, Nat.sub_zero, Nat.add_sub_cancel, Nat.div_one]
 have hl : ∀ i ∈ List.range' 0 8 1, i < 8 := fun i hi => by simpa using (List.mem_range'_1.1 hi).2
 generalize List.range' 0 8 1 = l at hl ⊢
 induction l with
 | nil => simp
 | cons i l ih =>
  have hi : i < 8 := hl i (by simp)
  have px : ∀ s : Nat -> Int, (part 2 (stC s) (i * 1)).run Try.prog w = .ok (.int .i64 (s i)) w := by
   intro s
   have : i = 0 \/ i = 1 \/ i = 2 \/ i = 3 \/ i = 4 \/ i = 5 \/ i = 6 \/ i = 7 := by omega
   rcases this with rfl | rfl | rfl | rfl | rfl | rfl | rfl | rfl <;> simp [part, isAgg, run_underlying Try.underlying2, stC]
  have pe : (Op.equalIn (d + 1) 2 (.int .i64 (s i)) (.int .i64 (s' i))).run Try.prog w = .ok (s i == s' i) w := run_equalIn_int w d _ .i64 .i64 _ _ Try.underlying2
  simp only [List.forIn_cons, Sem.run_bind, px, pe, Result.andThen_ok, List.all_cons]
  cases hb : (s i == s' i)
  ·simp
  ·simp only [Bool.not_true, Bool.false_eq_true, if_false, Sem.run_pure, Result.andThen_ok, Bool.true_and]
   exact ih fun j hj => hl j (by simp [hj])

def sameO (a b : OC) : Bool := decide (a.e = b.e) && (decide (a.n = b.n) && sameV a.v b.v)
end
section

end
end Go.Proofs.Ytohfejpjjjaejaa
