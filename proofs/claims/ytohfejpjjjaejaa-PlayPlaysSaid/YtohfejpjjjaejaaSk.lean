/-
  PlayPlays, part 11 of what it rests on: ValRFlat, ValRBuild1, ValRBuild2.
-/
import Derived.Test.YtohfejpjjjaejaaSj
set_option linter.unusedVariables false
set_option linter.unusedSimpArgs false
set_option maxHeartbeats 32000000
namespace Go.Proofs.Ytohfejpjjjaejaa
open Go.RowKit
open Go.Lib (hid)
section
attribute [local go_sem] run_store_float

abbrev IOwn (B : Nat) (w : World) (v : Value) (l : List Int) : Prop := w.ownsRow B 2 1 v l.length (l.map (Value.int .i64))

theorem IOwn.le {B B0 : Nat} {w : World} {v : Value} {l : List Int} (h : IOwn B w v l) (hB : B0 <= B) : IOwn B0 w v l := by
 refine ⟨h.1, ?_⟩
 rcases h.2 with h2 | ⟨g, cap, cur, e, hb, r⟩
 ·exact .inl h2
 ·exact .inr ⟨g, cap, cur, e, Nat.le_trans hB hb, r⟩

theorem IOwn.ge {B : Nat} {w : World} {v : Value} {l : List Int} (h : IOwn B w v l) {k : Nat} (hk : v.ownBlock = some k) : B <= k := by
 rcases h.2 with ⟨rfl, e⟩ | ⟨g, cap, cur, rfl, hb, r⟩
 ·simp [Value.ownBlock] at hk
 ·have : g = k := by simpa [Value.ownBlock] using hk
  omega

theorem IOwn.first {P : Program} {B : Nat} {w : World} {v : Value} {l : List Int} (h : IOwn B w v l) : (Builtin.firstCells 1 l.length v).run P w = .ok (l.map (Value.int .i64)).toArray w := by
 have h0 := h
 rcases h.2 with ⟨rfl, e⟩ | ⟨g, cap, cur, rfl, hb, hg, hle, _⟩
 ·obtain rfl := List.eq_nil_of_length_eq_zero e
  simp [Builtin.firstCells]
 ·exact run_firstCells_some (P := P) w 1 l.length ⟨g, 0, none⟩ l.length cap (l.map (Value.int .i64)) (by simp) (fun j v hj => World.ownsRow.cells (g := g) h0 rfl j v hj)

theorem IOwn.nil (B : Nat) (w : World) : IOwn B w (.slice none 0 0) [] := ⟨rfl, .inl ⟨rfl, rfl⟩⟩

theorem rfl_new {S T : Nat -> Prop} {w w1 w2 : World} (h : Fr S w w1) (hT : ∀ k, T k -> w.heap.size <= k) (f : Fr T w1 w2) : Fr S w w2 :=
 ⟨f.os.trans h.os, f.tape.trans h.tape, f.output.trans h.output, Nat.le_trans h.size f.size, fun b hb hs => (f.block b (Nat.lt_of_lt_of_le hb h.size) (fun t => by have := hT b t; omega)).trans (h.block b hb hs)⟩

theorem flE_len (t : KT) : ∀ T, (flE t T).length <= 2 * szV T := by
 induction t with
 | nil => intro T; simp [flE]
 | mk k m ns n of ih =>
  intro T
  cases T with
  | nil => simp [flE]
  | mk N f s c ov =>
   have hs : (((List.range c).map (fun i => flE (of (if k = 6 then i else if k = 8 then N.toNat else 0)) (ov i))).flatten).length <= 2 * sumTo (fun i => szV (ov i)) c := by
    induction c with
    | zero => simp
    | succ c ihc =>
     rw [List.range_succ, List.map_append, List.flatten_append, List.length_append, sumTo_succ]
     have := ih (if k = 6 then c else if k = 8 then N.toNat else 0) (ov c)
     simp only [List.map_cons, List.map_nil, List.flatten_cons, List.flatten_nil, List.append_nil]
     omega
   rw [flE, szV]
   unfold sumTo at hs
   split
   ·simp; omega
   ·split
    ·simp; omega
    ·rw [List.length_append, List.length_append]
     by_cases h5 : k = 5
     ·rw [if_pos h5, if_neg (by omega)]; simp at hs ⊢; omega
     ·rw [if_neg h5]; split <;> (simp at hs ⊢; omega)

def accE (pre : List Int) (F : Nat -> List Int) (j : Nat) : List Int := pre ++ ((List.range j).map F).flatten

theorem accE_zero (pre : List Int) (F : Nat -> List Int) : accE pre F 0 = pre := by simp [accE]

theorem accE_succ (pre : List Int) (F : Nat -> List Int) (j : Nat) : accE pre F (j + 1) = accE pre F j ++ F j := by
 unfold accE
 rw [List.range_succ, List.map_append, List.flatten_append, List.append_assoc]
 simp

theorem accE_len (pre : List Int) (t : Nat -> KT) (ov : Nat -> VT) (j : Nat) : (accE pre (fun i => flE (t i) (ov i)) j).length <= pre.length + 2 * sumTo (fun i => szV (ov i)) j := by
 induction j with
 | zero => rw [accE_zero]; omega
 | succ j ih =>
  rw [accE_succ, List.length_append, sumTo_succ]
  have := flE_len (t j) (ov j)
  omega

def RFlatAt (t : KT) : Prop := ∀ (R : Nat -> Prop) (v vv : Value) (w : World) (T : VT), goodE t -> RShows R w t v -> VShows R w T vv -> isE t T = true -> szV T <= 100000 ->
 Calls Try.prog 7 #[v, vv] w fun e w' => ∃ nv, e = .returned nv /\ IOwn w.heap.size w' nv (flE t T) /\ Fr (fun _ => False) w w'

def RfS (B : Nat) (wr : World) (po : Value) (acc fl : List Int) : List Value -> World -> Prop
 | [], wx => Fr (fun _ => False) wr wx
 | [v], wx => Fr (fun _ => False) wr wx /\ IOwn wr.heap.size wx v fl
 | [_, u], wx => Fr (fun k => po.ownBlock = some k) wr wx /\ IOwn B wx u (acc ++ fl)
 | _ :: _ :: x :: _, wx => Fr (fun k => po.ownBlock = some k) wr wx /\ IOwn B wx x (acc ++ fl)

theorem RfS.fr {B : Nat} {wr : World} {po : Value} {acc fl : List Int} {l : List Value} {wx : World} (h : RfS B wr po acc fl l wx) : Fr (fun k => po.ownBlock = some k) wr wx := by
 match l, h with
 | [], h => exact Fr.mono h (fun _ _ h => h.elim)
 | [_], h => exact h.1.mono (fun _ _ h => h.elim)
 | [_, _], h => exact h.1
 | _ :: _ :: _ :: _, h => exact h.1

theorem iown_one (w w1 : World) (x : Int) (h : w.heap.size <= w1.heap.size) : IOwn w.heap.size (w1.alloc (.cells #[.int .i64 x] 2)) (.slice (some ⟨w1.heap.size, 0, none⟩) 1 1) [x] :=
 ⟨rfl, .inr ⟨w1.heap.size, 1, _, rfl, h, heap_alloc_new w1 _, Nat.le_refl _, by unfold maxLen; omega, rfl, rfl⟩⟩

set_option maxRecDepth 100000 in
theorem rflat_k0 (k : Nat) (m : Int) (ns : List Txt) (n : Nat) (of : Nat -> KT) (ih : ∀ i, RFlatAt (of i)) (hk0 : k = 0) : RFlatAt (.mk k m ns n of) := by
 intro R v vv w T hgood hrs0 hvs0 his hsz
 have hrs : RShows (fun k => k < w.heap.size) w (.mk k m ns n of) v := RShows.mono (fun k hk _ => hk) _ _ hrs0
 have hvs : VShows (fun k => k < w.heap.size) w T vv := VShows.mono (fun k hk _ => hk) _ _ hvs0
 clear hrs0 hvs0
 obtain ⟨⟨hn12, hown⟩, hkids⟩ := hgood
 obtain ⟨hk8, hmost, hone, hparts, hnames, hnone⟩ := own_facts hown
 obtain ⟨_, _, _, _, _, a', c', e1, rfl, hrb, hrk⟩ := rshows_open hrs
 cases e1
 obtain ⟨N, f, s, c, ov, va, cap, rfl, rfl, hVB, hVK⟩ := vshows_open hvs
 obtain ⟨hN0, hN1, hf64, hsl, hc5⟩ := hVB
 rw [isE_iff] at his
 obtain ⟨_, _, i3, i4, i5, _, _, i8, i9, i10⟩ := his
 obtain ⟨nn, hnn⟩ : ∃ nn, ns.length = nn := ⟨_, rfl⟩
 obtain rfl : c = 0 := i3 (by omega)
 have HE : Hid (flE (.mk k m ns n of) (.mk N f s 0 ov) = accE [N] (fun i => flE (of 0) (ov i)) 0) := hid (by
  rw [flE, if_neg (by omega), if_neg (by omega)]
  unfold accE
  subst hk0
  simp)
 have HLEN : Hid (∀ j, j < 0 -> (accE [N] (fun i => flE (of 0) (ov i)) j).length + (flE (of 0) (ov j)).length <= 200001 /\ szV (ov j) <= 100000) := hid (fun j hj => by
  have h1 := accE_len [N] (fun i => of 0) ov j
  have h2 := flE_len (of 0) (ov j)
  have h3 := sumTo_le (fun i => szV (ov i)) j 0 hj
  rw [szV] at hsz
  unfold sumTo at h1 h3
  simp only [List.length_cons, List.length_nil] at h1
  omega)
 have hlen : ((⟨s.toArray⟩ : ByteArray).size : Int) = (s.length : Int) := by simp [ByteArray.size]
 have HRK := hid hrk
 have HVK := hid hVK
 have HKIDS := hid hkids
 unfold sv
 rw [hnn] at hrb ⊢
 have hnn1 : nn <= 1000 := hrb.2.1
 have hn1000 : n <= 1000 := hrb.2.2
 obtain ⟨kz, hkz⟩ : ∃ kz : Int, (k : Int) = kz := ⟨_, rfl⟩
 rw [hkz]
 have e3 : (kz == 3) = false := by simp; omega
 have e4 : (kz == 4) = false := by simp; omega
 have e5 : (kz == 5) = false := by simp; omega
 have e6 : (kz == 6) = false := by simp; omega
 have e8 : (kz == 8) = false := by simp; omega
 have g1 : decide (kz < 3) = true := by simp; omega
 have g2 : decide (6 < kz) = false := by simp; omega
 obtain ⟨w1, hw1⟩ : ∃ w1, w1 = (w.alloc (.cells #[.int .i64 kz, .int .i64 m, .int .i64 (nn : Nat), .slice a' n c'] 54)).alloc (.cells #[.int .i64 N, .float .f64 f, .string ⟨s.toArray⟩, .slice va 0 cap] 58) := ⟨_, rfl⟩
 have f1 : Fr (fun _ => False) w w1 := by rw [hw1]; exact ((Fr.refl _ _).alloc _).alloc _
 have q1 : w1.heap[w.heap.size]? = some (.cells #[.int .i64 kz, .int .i64 m, .int .i64 (nn : Nat), .slice a' n c'] 54 (0, 0)) := by rw [hw1]; exact heap_alloc_first _ _ _
 have v1 : w1.heap[w.heap.size + 1]? = some (.cells #[.int .i64 N, .float .f64 f, .string ⟨s.toArray⟩, .slice va 0 cap] 58 (0, 0)) := by rw [hw1]; exact heap_alloc_two _ _ _
 have HSZ1 : Hid (w1.heap.size = w.heap.size + 1 + 1) := hid (by rw [hw1]; simp)
 obtain ⟨i0, hi, hz0, hz1, hz2⟩ := info_parts Try.infoI64
 have HI0 := hid (And.intro hi (And.intro hz0 (And.intro hz1 hz2)))
 clear hrs hvs hk0 hk8 hmost hone hparts hnames hnone hkids hrk hVK hrb hown hnn hkz hn12 hsl hsz i3 i4 i5 i8 i9 i10 hi hz0 hz1 hz2
 go_enter Try.func7, Try.ntmps7
 go_upto_region 1 with fail
 rw [<- hw1]
 obtain ⟨vb, hvb⟩ : ∃ vb, w.heap.size + 1 = vb := ⟨_, rfl⟩
 rw [hvb] at v1 HSZ1 ⊢
 have HVB := hid hvb
 obtain ⟨tb, htb⟩ : ∃ tb, w.heap.size = tb := ⟨_, rfl⟩
 rw [htb] at q1 ⊢
 have HTB := hid htb
 obtain ⟨c0, c1, c2, c3⟩ := cell_of_four q1
 obtain ⟨d0, d1, d2, d3⟩ := cell_of_four v1
 have H1 := hid (And.intro f1 (And.intro q1 v1))
 clear hw1 f1 q1 v1 hvb htb
 have q2 : (w1.alloc (.cells #[.int .i64 N] 2)).heap[w1.heap.size]? = some (.cells #[.int .i64 N] 2 (0, 0)) := heap_alloc_new _ _
 have Q2 := hid q2
 have HB1 := hid (show w1.heap.size <= (w1.alloc (.cells #[.int .i64 N] 2)).heap.size by simp)
 clear q2
 go_wp2_with (at_builtin; refine wpList_append_sep rfl (.tmp 39) (.tmp 42) 28 28 rfl w1.heap.size 2 i0 (.int .i64 0) 1 8 Try.underlying28 _ Try.underlying28 (.inr ⟨_, rfl⟩) HI0.out.1 HI0.out.2.1 HI0.out.2.2.1 HI0.out.2.2.2 rfl (by decide) (.slice none 0 0) 0 [] rfl ?own (.slice (some ⟨w1.heap.size, 0, none⟩) 1 1) 1 [.int .i64 N] rfl (fun w => lenOf_slice _ _ _ _) rfl ?fc1 ?fc2 ?one ?b1 ?b2 ?base ?grow)
 case own => exact ⟨rfl, .inl ⟨rfl, rfl⟩⟩
 case fc1 => exact first_one 1 1 rfl Q2.out
 case fc2 => exact first_one 1 1 rfl (w := World.drew _) Q2.out
 case one => intro u hu; simp at hu; subst hu; rfl
 case b1 => unfold maxLen; omega
 case b2 => omega
 case base => exact HB1.out
 case grow =>
 intro v2 w2 hown hg2 hv2
 have f2 : Fr (fun _ => False) w1 w2 := ((Fr.refl (fun _ => False) w1).alloc (.cells #[.int .i64 N] 2)).trans ((Fr.of_grown hg2).mono (fun _ _ e => by simp [Value.ownBlock] at e)) fid2
 have hown2 : IOwn w1.heap.size w2 v2 [N] := hown
 have HO2 := hid (And.intro f2 hown2)
 clear hown hg2 hv2 f2 hown2
 have c0 := cells_row (box_kept H1.out.2.1 HO2.out.1 (fun h => h)) 0 _ rfl
 have d3 := cells_row (box_kept H1.out.2.2 HO2.out.1 (fun h => h)) 3 _ rfl
 go_wp2
 clear c0 c1 c2 c3 d0 d1 d2 d3
 go_loopg [5, 6, 7] 0 (fun G u5 u6 u7 wr => ∃ j : Nat, j <= 0 /\ G = 0 - j /\ u6 = .int .i64 j /\ Hid (IOwn w1.heap.size wr u5 (accE [N] (fun i => flE (of 0) (ov i)) j) /\ Fr (fun _ => False) w1 wr))
 case atStart => exact ⟨0, Nat.zero_le _, rfl, by go_num, hid ⟨by rw [accE_zero]; exact HO2.out.2, HO2.out.1⟩⟩
 case round =>
  obtain ⟨j, hj, rfl, rfl, HI⟩ := hrel
  obtain ⟨qa, qc, e5⟩ := slice_of_own HI.out.1
  subst e5
  have qr := box_kept H1.out.2.1 HI.out.2 (fun h => h)
  have vr := box_kept H1.out.2.2 HI.out.2 (fun h => h)
  have c0 := cells_row qr 0 _ rfl
  have c3 := cells_row qr 3 _ rfl
  have d0 := cells_row vr 0 _ rfl
  have d3 := cells_row vr 3 _ rfl
  have HQR := hid (And.intro qr vr)
  clear qr vr
  obtain rfl : j = 0 := by omega
  go_wp2
  go_ret
  refine ⟨_, rfl, ?_, H1.out.1.trans HI.out.2 fid2⟩
  rw [HE.out]
  exact HI.out.1.le H1.out.1.size

set_option maxRecDepth 100000 in
theorem rflat_k1 (k : Nat) (m : Int) (ns : List Txt) (n : Nat) (of : Nat -> KT) (ih : ∀ i, RFlatAt (of i)) (hk0 : k = 1) : RFlatAt (.mk k m ns n of) := by
 intro R v vv w T hgood hrs0 hvs0 his hsz
 have hrs : RShows (fun k => k < w.heap.size) w (.mk k m ns n of) v := RShows.mono (fun k hk _ => hk) _ _ hrs0
 have hvs : VShows (fun k => k < w.heap.size) w T vv := VShows.mono (fun k hk _ => hk) _ _ hvs0
 clear hrs0 hvs0
 obtain ⟨⟨hn12, hown⟩, hkids⟩ := hgood
 obtain ⟨hk8, hmost, hone, hparts, hnames, hnone⟩ := own_facts hown
 obtain ⟨_, _, _, _, _, a', c', e1, rfl, hrb, hrk⟩ := rshows_open hrs
 cases e1
 obtain ⟨N, f, s, c, ov, va, cap, rfl, rfl, hVB, hVK⟩ := vshows_open hvs
 obtain ⟨hN0, hN1, hf64, hsl, hc5⟩ := hVB
 rw [isE_iff] at his
 obtain ⟨_, _, i3, i4, i5, _, _, i8, i9, i10⟩ := his
 obtain ⟨nn, hnn⟩ : ∃ nn, ns.length = nn := ⟨_, rfl⟩
 obtain rfl : c = 0 := i3 (by omega)
 have HE : Hid (flE (.mk k m ns n of) (.mk N f s 0 ov) = accE [N] (fun i => flE (of 0) (ov i)) 0) := hid (by
  rw [flE, if_neg (by omega), if_neg (by omega)]
  unfold accE
  subst hk0
  simp)
 have HLEN : Hid (∀ j, j < 0 -> (accE [N] (fun i => flE (of 0) (ov i)) j).length + (flE (of 0) (ov j)).length <= 200001 /\ szV (ov j) <= 100000) := hid (fun j hj => by
  have h1 := accE_len [N] (fun i => of 0) ov j
  have h2 := flE_len (of 0) (ov j)
  have h3 := sumTo_le (fun i => szV (ov i)) j 0 hj
  rw [szV] at hsz
  unfold sumTo at h1 h3
  simp only [List.length_cons, List.length_nil] at h1
  omega)
 have hlen : ((⟨s.toArray⟩ : ByteArray).size : Int) = (s.length : Int) := by simp [ByteArray.size]
 have HRK := hid hrk
 have HVK := hid hVK
 have HKIDS := hid hkids
 unfold sv
 rw [hnn] at hrb ⊢
 have hnn1 : nn <= 1000 := hrb.2.1
 have hn1000 : n <= 1000 := hrb.2.2
 obtain ⟨kz, hkz⟩ : ∃ kz : Int, (k : Int) = kz := ⟨_, rfl⟩
 rw [hkz]
 have e3 : (kz == 3) = false := by simp; omega
 have e4 : (kz == 4) = false := by simp; omega
 have e5 : (kz == 5) = false := by simp; omega
 have e6 : (kz == 6) = false := by simp; omega
 have e8 : (kz == 8) = false := by simp; omega
 have g1 : decide (kz < 3) = true := by simp; omega
 have g2 : decide (6 < kz) = false := by simp; omega
 obtain ⟨w1, hw1⟩ : ∃ w1, w1 = (w.alloc (.cells #[.int .i64 kz, .int .i64 m, .int .i64 (nn : Nat), .slice a' n c'] 54)).alloc (.cells #[.int .i64 N, .float .f64 f, .string ⟨s.toArray⟩, .slice va 0 cap] 58) := ⟨_, rfl⟩
 have f1 : Fr (fun _ => False) w w1 := by rw [hw1]; exact ((Fr.refl _ _).alloc _).alloc _
 have q1 : w1.heap[w.heap.size]? = some (.cells #[.int .i64 kz, .int .i64 m, .int .i64 (nn : Nat), .slice a' n c'] 54 (0, 0)) := by rw [hw1]; exact heap_alloc_first _ _ _
 have v1 : w1.heap[w.heap.size + 1]? = some (.cells #[.int .i64 N, .float .f64 f, .string ⟨s.toArray⟩, .slice va 0 cap] 58 (0, 0)) := by rw [hw1]; exact heap_alloc_two _ _ _
 have HSZ1 : Hid (w1.heap.size = w.heap.size + 1 + 1) := hid (by rw [hw1]; simp)
 obtain ⟨i0, hi, hz0, hz1, hz2⟩ := info_parts Try.infoI64
 have HI0 := hid (And.intro hi (And.intro hz0 (And.intro hz1 hz2)))
 clear hrs hvs hk0 hk8 hmost hone hparts hnames hnone hkids hrk hVK hrb hown hnn hkz hn12 hsl hsz i3 i4 i5 i8 i9 i10 hi hz0 hz1 hz2
 go_enter Try.func7, Try.ntmps7
 go_upto_region 1 with fail
 rw [<- hw1]
 obtain ⟨vb, hvb⟩ : ∃ vb, w.heap.size + 1 = vb := ⟨_, rfl⟩
 rw [hvb] at v1 HSZ1 ⊢
 have HVB := hid hvb
 obtain ⟨tb, htb⟩ : ∃ tb, w.heap.size = tb := ⟨_, rfl⟩
 rw [htb] at q1 ⊢
 have HTB := hid htb
 obtain ⟨c0, c1, c2, c3⟩ := cell_of_four q1
 obtain ⟨d0, d1, d2, d3⟩ := cell_of_four v1
 have H1 := hid (And.intro f1 (And.intro q1 v1))
 clear hw1 f1 q1 v1 hvb htb
 have q2 : (w1.alloc (.cells #[.int .i64 N] 2)).heap[w1.heap.size]? = some (.cells #[.int .i64 N] 2 (0, 0)) := heap_alloc_new _ _
 have Q2 := hid q2
 have HB1 := hid (show w1.heap.size <= (w1.alloc (.cells #[.int .i64 N] 2)).heap.size by simp)
 clear q2
 go_wp2_with (at_builtin; refine wpList_append_sep rfl (.tmp 39) (.tmp 42) 28 28 rfl w1.heap.size 2 i0 (.int .i64 0) 1 8 Try.underlying28 _ Try.underlying28 (.inr ⟨_, rfl⟩) HI0.out.1 HI0.out.2.1 HI0.out.2.2.1 HI0.out.2.2.2 rfl (by decide) (.slice none 0 0) 0 [] rfl ?own (.slice (some ⟨w1.heap.size, 0, none⟩) 1 1) 1 [.int .i64 N] rfl (fun w => lenOf_slice _ _ _ _) rfl ?fc1 ?fc2 ?one ?b1 ?b2 ?base ?grow)
 case own => exact ⟨rfl, .inl ⟨rfl, rfl⟩⟩
 case fc1 => exact first_one 1 1 rfl Q2.out
 case fc2 => exact first_one 1 1 rfl (w := World.drew _) Q2.out
 case one => intro u hu; simp at hu; subst hu; rfl
 case b1 => unfold maxLen; omega
 case b2 => omega
 case base => exact HB1.out
 case grow =>
 intro v2 w2 hown hg2 hv2
 have f2 : Fr (fun _ => False) w1 w2 := ((Fr.refl (fun _ => False) w1).alloc (.cells #[.int .i64 N] 2)).trans ((Fr.of_grown hg2).mono (fun _ _ e => by simp [Value.ownBlock] at e)) fid2
 have hown2 : IOwn w1.heap.size w2 v2 [N] := hown
 have HO2 := hid (And.intro f2 hown2)
 clear hown hg2 hv2 f2 hown2
 have c0 := cells_row (box_kept H1.out.2.1 HO2.out.1 (fun h => h)) 0 _ rfl
 have d3 := cells_row (box_kept H1.out.2.2 HO2.out.1 (fun h => h)) 3 _ rfl
 go_wp2
 clear c0 c1 c2 c3 d0 d1 d2 d3
 go_loopg [5, 6, 7] 0 (fun G u5 u6 u7 wr => ∃ j : Nat, j <= 0 /\ G = 0 - j /\ u6 = .int .i64 j /\ Hid (IOwn w1.heap.size wr u5 (accE [N] (fun i => flE (of 0) (ov i)) j) /\ Fr (fun _ => False) w1 wr))
 case atStart => exact ⟨0, Nat.zero_le _, rfl, by go_num, hid ⟨by rw [accE_zero]; exact HO2.out.2, HO2.out.1⟩⟩
 case round =>
  obtain ⟨j, hj, rfl, rfl, HI⟩ := hrel
  obtain ⟨qa, qc, e5⟩ := slice_of_own HI.out.1
  subst e5
  have qr := box_kept H1.out.2.1 HI.out.2 (fun h => h)
  have vr := box_kept H1.out.2.2 HI.out.2 (fun h => h)
  have c0 := cells_row qr 0 _ rfl
  have c3 := cells_row qr 3 _ rfl
  have d0 := cells_row vr 0 _ rfl
  have d3 := cells_row vr 3 _ rfl
  have HQR := hid (And.intro qr vr)
  clear qr vr
  obtain rfl : j = 0 := by omega
  go_wp2
  go_ret
  refine ⟨_, rfl, ?_, H1.out.1.trans HI.out.2 fid2⟩
  rw [HE.out]
  exact HI.out.1.le H1.out.1.size

set_option maxRecDepth 100000 in
theorem rflat_k2 (k : Nat) (m : Int) (ns : List Txt) (n : Nat) (of : Nat -> KT) (ih : ∀ i, RFlatAt (of i)) (hk0 : k = 2) : RFlatAt (.mk k m ns n of) := by
 intro R v vv w T hgood hrs0 hvs0 his hsz
 have hrs : RShows (fun k => k < w.heap.size) w (.mk k m ns n of) v := RShows.mono (fun k hk _ => hk) _ _ hrs0
 have hvs : VShows (fun k => k < w.heap.size) w T vv := VShows.mono (fun k hk _ => hk) _ _ hvs0
 clear hrs0 hvs0
 obtain ⟨⟨hn12, hown⟩, hkids⟩ := hgood
 obtain ⟨hk8, hmost, hone, hparts, hnames, hnone⟩ := own_facts hown
 obtain ⟨_, _, _, _, _, a', c', e1, rfl, hrb, hrk⟩ := rshows_open hrs
 cases e1
 obtain ⟨N, f, s, c, ov, va, cap, rfl, rfl, hVB, hVK⟩ := vshows_open hvs
 obtain ⟨hN0, hN1, hf64, hsl, hc5⟩ := hVB
 rw [isE_iff] at his
 obtain ⟨_, _, i3, i4, i5, _, _, i8, i9, i10⟩ := his
 obtain ⟨nn, hnn⟩ : ∃ nn, ns.length = nn := ⟨_, rfl⟩
 obtain rfl : c = 0 := i3 (by omega)
 have HE : Hid (flE (.mk k m ns n of) (.mk N f s 0 ov) = accE [N] (fun i => flE (of 0) (ov i)) 0) := hid (by
  rw [flE, if_neg (by omega), if_neg (by omega)]
  unfold accE
  subst hk0
  simp)
 have HLEN : Hid (∀ j, j < 0 -> (accE [N] (fun i => flE (of 0) (ov i)) j).length + (flE (of 0) (ov j)).length <= 200001 /\ szV (ov j) <= 100000) := hid (fun j hj => by
  have h1 := accE_len [N] (fun i => of 0) ov j
  have h2 := flE_len (of 0) (ov j)
  have h3 := sumTo_le (fun i => szV (ov i)) j 0 hj
  rw [szV] at hsz
  unfold sumTo at h1 h3
  simp only [List.length_cons, List.length_nil] at h1
  omega)
 have hlen : ((⟨s.toArray⟩ : ByteArray).size : Int) = (s.length : Int) := by simp [ByteArray.size]
 have HRK := hid hrk
 have HVK := hid hVK
 have HKIDS := hid hkids
 unfold sv
 rw [hnn] at hrb ⊢
 have hnn1 : nn <= 1000 := hrb.2.1
 have hn1000 : n <= 1000 := hrb.2.2
 obtain ⟨kz, hkz⟩ : ∃ kz : Int, (k : Int) = kz := ⟨_, rfl⟩
 rw [hkz]
 have e3 : (kz == 3) = false := by simp; omega
 have e4 : (kz == 4) = false := by simp; omega
 have e5 : (kz == 5) = false := by simp; omega
 have e6 : (kz == 6) = false := by simp; omega
 have e8 : (kz == 8) = false := by simp; omega
 have g1 : decide (kz < 3) = true := by simp; omega
 have g2 : decide (6 < kz) = false := by simp; omega
 obtain ⟨w1, hw1⟩ : ∃ w1, w1 = (w.alloc (.cells #[.int .i64 kz, .int .i64 m, .int .i64 (nn : Nat), .slice a' n c'] 54)).alloc (.cells #[.int .i64 N, .float .f64 f, .string ⟨s.toArray⟩, .slice va 0 cap] 58) := ⟨_, rfl⟩
 have f1 : Fr (fun _ => False) w w1 := by rw [hw1]; exact ((Fr.refl _ _).alloc _).alloc _
 have q1 : w1.heap[w.heap.size]? = some (.cells #[.int .i64 kz, .int .i64 m, .int .i64 (nn : Nat), .slice a' n c'] 54 (0, 0)) := by rw [hw1]; exact heap_alloc_first _ _ _
 have v1 : w1.heap[w.heap.size + 1]? = some (.cells #[.int .i64 N, .float .f64 f, .string ⟨s.toArray⟩, .slice va 0 cap] 58 (0, 0)) := by rw [hw1]; exact heap_alloc_two _ _ _
 have HSZ1 : Hid (w1.heap.size = w.heap.size + 1 + 1) := hid (by rw [hw1]; simp)
 obtain ⟨i0, hi, hz0, hz1, hz2⟩ := info_parts Try.infoI64
 have HI0 := hid (And.intro hi (And.intro hz0 (And.intro hz1 hz2)))
 clear hrs hvs hk0 hk8 hmost hone hparts hnames hnone hkids hrk hVK hrb hown hnn hkz hn12 hsl hsz i3 i4 i5 i8 i9 i10 hi hz0 hz1 hz2
 go_enter Try.func7, Try.ntmps7
 go_upto_region 1 with fail
 rw [<- hw1]
 obtain ⟨vb, hvb⟩ : ∃ vb, w.heap.size + 1 = vb := ⟨_, rfl⟩
 rw [hvb] at v1 HSZ1 ⊢
 have HVB := hid hvb
 obtain ⟨tb, htb⟩ : ∃ tb, w.heap.size = tb := ⟨_, rfl⟩
 rw [htb] at q1 ⊢
 have HTB := hid htb
 obtain ⟨c0, c1, c2, c3⟩ := cell_of_four q1
 obtain ⟨d0, d1, d2, d3⟩ := cell_of_four v1
 have H1 := hid (And.intro f1 (And.intro q1 v1))
 clear hw1 f1 q1 v1 hvb htb
 have q2 : (w1.alloc (.cells #[.int .i64 N] 2)).heap[w1.heap.size]? = some (.cells #[.int .i64 N] 2 (0, 0)) := heap_alloc_new _ _
 have Q2 := hid q2
 have HB1 := hid (show w1.heap.size <= (w1.alloc (.cells #[.int .i64 N] 2)).heap.size by simp)
 clear q2
 go_wp2_with (at_builtin; refine wpList_append_sep rfl (.tmp 39) (.tmp 42) 28 28 rfl w1.heap.size 2 i0 (.int .i64 0) 1 8 Try.underlying28 _ Try.underlying28 (.inr ⟨_, rfl⟩) HI0.out.1 HI0.out.2.1 HI0.out.2.2.1 HI0.out.2.2.2 rfl (by decide) (.slice none 0 0) 0 [] rfl ?own (.slice (some ⟨w1.heap.size, 0, none⟩) 1 1) 1 [.int .i64 N] rfl (fun w => lenOf_slice _ _ _ _) rfl ?fc1 ?fc2 ?one ?b1 ?b2 ?base ?grow)
 case own => exact ⟨rfl, .inl ⟨rfl, rfl⟩⟩
 case fc1 => exact first_one 1 1 rfl Q2.out
 case fc2 => exact first_one 1 1 rfl (w := World.drew _) Q2.out
 case one => intro u hu; simp at hu; subst hu; rfl
 case b1 => unfold maxLen; omega
 case b2 => omega
 case base => exact HB1.out
 case grow =>
 intro v2 w2 hown hg2 hv2
 have f2 : Fr (fun _ => False) w1 w2 := ((Fr.refl (fun _ => False) w1).alloc (.cells #[.int .i64 N] 2)).trans ((Fr.of_grown hg2).mono (fun _ _ e => by simp [Value.ownBlock] at e)) fid2
 have hown2 : IOwn w1.heap.size w2 v2 [N] := hown
 have HO2 := hid (And.intro f2 hown2)
 clear hown hg2 hv2 f2 hown2
 have c0 := cells_row (box_kept H1.out.2.1 HO2.out.1 (fun h => h)) 0 _ rfl
 have d3 := cells_row (box_kept H1.out.2.2 HO2.out.1 (fun h => h)) 3 _ rfl
 go_wp2
 clear c0 c1 c2 c3 d0 d1 d2 d3
 go_loopg [5, 6, 7] 0 (fun G u5 u6 u7 wr => ∃ j : Nat, j <= 0 /\ G = 0 - j /\ u6 = .int .i64 j /\ Hid (IOwn w1.heap.size wr u5 (accE [N] (fun i => flE (of 0) (ov i)) j) /\ Fr (fun _ => False) w1 wr))
 case atStart => exact ⟨0, Nat.zero_le _, rfl, by go_num, hid ⟨by rw [accE_zero]; exact HO2.out.2, HO2.out.1⟩⟩
 case round =>
  obtain ⟨j, hj, rfl, rfl, HI⟩ := hrel
  obtain ⟨qa, qc, e5⟩ := slice_of_own HI.out.1
  subst e5
  have qr := box_kept H1.out.2.1 HI.out.2 (fun h => h)
  have vr := box_kept H1.out.2.2 HI.out.2 (fun h => h)
  have c0 := cells_row qr 0 _ rfl
  have c3 := cells_row qr 3 _ rfl
  have d0 := cells_row vr 0 _ rfl
  have d3 := cells_row vr 3 _ rfl
  have HQR := hid (And.intro qr vr)
  clear qr vr
  obtain rfl : j = 0 := by omega
  go_wp2
  go_ret
  refine ⟨_, rfl, ?_, H1.out.1.trans HI.out.2 fid2⟩
  rw [HE.out]
  exact HI.out.1.le H1.out.1.size

set_option maxRecDepth 100000 in
theorem rflat_k3 (k : Nat) (m : Int) (ns : List Txt) (n : Nat) (of : Nat -> KT) (ih : ∀ i, RFlatAt (of i)) (hk0 : k = 3) : RFlatAt (.mk k m ns n of) := by
 intro R v vv w T hgood hrs0 hvs0 his hsz
 have hrs : RShows (fun k => k < w.heap.size) w (.mk k m ns n of) v := RShows.mono (fun k hk _ => hk) _ _ hrs0
 have hvs : VShows (fun k => k < w.heap.size) w T vv := VShows.mono (fun k hk _ => hk) _ _ hvs0
 clear hrs0 hvs0
 obtain ⟨⟨hn12, hown⟩, hkids⟩ := hgood
 obtain ⟨hk8, hmost, hone, hparts, hnames, hnone⟩ := own_facts hown
 obtain ⟨_, _, _, _, _, a', c', e1, rfl, hrb, hrk⟩ := rshows_open hrs
 cases e1
 obtain ⟨N, f, s, c, ov, va, cap, rfl, rfl, hVB, hVK⟩ := vshows_open hvs
 obtain ⟨hN0, hN1, hf64, hsl, hc5⟩ := hVB
 rw [isE_iff] at his
 obtain ⟨_, _, i3, i4, i5, _, _, i8, i9, i10⟩ := his
 obtain ⟨nn, hnn⟩ : ∃ nn, ns.length = nn := ⟨_, rfl⟩
 obtain rfl : c = 0 := i3 (by omega)
 have HE : Hid (flE (.mk k m ns n of) (.mk N f s 0 ov) = [Fl.whole f]) := hid (by rw [flE, if_pos hk0])
 have hlen : ((⟨s.toArray⟩ : ByteArray).size : Int) = (s.length : Int) := by simp [ByteArray.size]
 have HRK := hid hrk
 have HVK := hid hVK
 have HKIDS := hid hkids
 unfold sv
 rw [hnn] at hrb ⊢
 have hnn1 : nn <= 1000 := hrb.2.1
 have hn1000 : n <= 1000 := hrb.2.2
 obtain ⟨kz, hkz⟩ : ∃ kz : Int, (k : Int) = kz := ⟨_, rfl⟩
 rw [hkz]
 have e3 : (kz == 3) = true := by simp; omega
 have e4 : (kz == 4) = false := by simp; omega
 have e5 : (kz == 5) = false := by simp; omega
 have e6 : (kz == 6) = false := by simp; omega
 have e8 : (kz == 8) = false := by simp; omega
 have g1 : decide (kz < 3) = false := by simp; omega
 have g2 : decide (6 < kz) = false := by simp; omega
 obtain ⟨w1, hw1⟩ : ∃ w1, w1 = (w.alloc (.cells #[.int .i64 kz, .int .i64 m, .int .i64 (nn : Nat), .slice a' n c'] 54)).alloc (.cells #[.int .i64 N, .float .f64 f, .string ⟨s.toArray⟩, .slice va 0 cap] 58) := ⟨_, rfl⟩
 have f1 : Fr (fun _ => False) w w1 := by rw [hw1]; exact ((Fr.refl _ _).alloc _).alloc _
 have q1 : w1.heap[w.heap.size]? = some (.cells #[.int .i64 kz, .int .i64 m, .int .i64 (nn : Nat), .slice a' n c'] 54 (0, 0)) := by rw [hw1]; exact heap_alloc_first _ _ _
 have v1 : w1.heap[w.heap.size + 1]? = some (.cells #[.int .i64 N, .float .f64 f, .string ⟨s.toArray⟩, .slice va 0 cap] 58 (0, 0)) := by rw [hw1]; exact heap_alloc_two _ _ _
 have HSZ1 : Hid (w1.heap.size = w.heap.size + 1 + 1) := hid (by rw [hw1]; simp)
 obtain ⟨i0, hi, hz0, hz1, hz2⟩ := info_parts Try.infoI64
 have HI0 := hid (And.intro hi (And.intro hz0 (And.intro hz1 hz2)))
 clear hrs hvs hk0 hk8 hmost hone hparts hnames hnone hkids hrk hVK hrb hown hnn hkz hn12 hsl hsz i3 i4 i5 i8 i9 i10 hi hz0 hz1 hz2
 go_enter Try.func7, Try.ntmps7
 go_upto_region 1 with fail
 rw [<- hw1]
 obtain ⟨vb, hvb⟩ : ∃ vb, w.heap.size + 1 = vb := ⟨_, rfl⟩
 rw [hvb] at v1 HSZ1 ⊢
 have HVB := hid hvb
 obtain ⟨tb, htb⟩ : ∃ tb, w.heap.size = tb := ⟨_, rfl⟩
 rw [htb] at q1 ⊢
 have HTB := hid htb
 obtain ⟨c0, c1, c2, c3⟩ := cell_of_four q1
 obtain ⟨d0, d1, d2, d3⟩ := cell_of_four v1
 have H1 := hid (And.intro f1 (And.intro q1 v1))
 clear hw1 f1 q1 v1 hvb htb
 have HWH := hid (fun (wx : World) => refwhole_any f wx)
 generalize hX : Fl.whole f = X at *
 clear hX
 go_wp2_with fail
 refine (HWH.out _).mono ?_
 rintro er wb ⟨rfl, rfl⟩
 go_wp2
 go_ret
 refine ⟨_, rfl, ?_, ((H1.out.1.drewN 0).trans ((Fr.refl (fun _ => False) _).alloc _) fid2)⟩
 rw [HE.out]
 exact iown_one _ _ _ H1.out.1.size

set_option maxRecDepth 100000 in
theorem rflat_k4 (k : Nat) (m : Int) (ns : List Txt) (n : Nat) (of : Nat -> KT) (ih : ∀ i, RFlatAt (of i)) (hk0 : k = 4) : RFlatAt (.mk k m ns n of) := by
 intro R v vv w T hgood hrs0 hvs0 his hsz
 have hrs : RShows (fun k => k < w.heap.size) w (.mk k m ns n of) v := RShows.mono (fun k hk _ => hk) _ _ hrs0
 have hvs : VShows (fun k => k < w.heap.size) w T vv := VShows.mono (fun k hk _ => hk) _ _ hvs0
 clear hrs0 hvs0
 obtain ⟨⟨hn12, hown⟩, hkids⟩ := hgood
 obtain ⟨hk8, hmost, hone, hparts, hnames, hnone⟩ := own_facts hown
 obtain ⟨_, _, _, _, _, a', c', e1, rfl, hrb, hrk⟩ := rshows_open hrs
 cases e1
 obtain ⟨N, f, s, c, ov, va, cap, rfl, rfl, hVB, hVK⟩ := vshows_open hvs
 obtain ⟨hN0, hN1, hf64, hsl, hc5⟩ := hVB
 rw [isE_iff] at his
 obtain ⟨_, _, i3, i4, i5, _, _, i8, i9, i10⟩ := his
 obtain ⟨nn, hnn⟩ : ∃ nn, ns.length = nn := ⟨_, rfl⟩
 obtain rfl : c = 0 := i3 (by omega)
 have HE : Hid (flE (.mk k m ns n of) (.mk N f s 0 ov) = [(s.length : Int)]) := hid (by rw [flE, if_neg (by omega), if_pos hk0])
 have hlen : ((⟨s.toArray⟩ : ByteArray).size : Int) = (s.length : Int) := by simp [ByteArray.size]
 have HRK := hid hrk
 have HVK := hid hVK
 have HKIDS := hid hkids
 unfold sv
 rw [hnn] at hrb ⊢
 have hnn1 : nn <= 1000 := hrb.2.1
 have hn1000 : n <= 1000 := hrb.2.2
 obtain ⟨kz, hkz⟩ : ∃ kz : Int, (k : Int) = kz := ⟨_, rfl⟩
 rw [hkz]
 have e3 : (kz == 3) = false := by simp; omega
 have e4 : (kz == 4) = true := by simp; omega
 have e5 : (kz == 5) = false := by simp; omega
 have e6 : (kz == 6) = false := by simp; omega
 have e8 : (kz == 8) = false := by simp; omega
 have g1 : decide (kz < 3) = false := by simp; omega
 have g2 : decide (6 < kz) = false := by simp; omega
 obtain ⟨w1, hw1⟩ : ∃ w1, w1 = (w.alloc (.cells #[.int .i64 kz, .int .i64 m, .int .i64 (nn : Nat), .slice a' n c'] 54)).alloc (.cells #[.int .i64 N, .float .f64 f, .string ⟨s.toArray⟩, .slice va 0 cap] 58) := ⟨_, rfl⟩
 have f1 : Fr (fun _ => False) w w1 := by rw [hw1]; exact ((Fr.refl _ _).alloc _).alloc _
 have q1 : w1.heap[w.heap.size]? = some (.cells #[.int .i64 kz, .int .i64 m, .int .i64 (nn : Nat), .slice a' n c'] 54 (0, 0)) := by rw [hw1]; exact heap_alloc_first _ _ _
 have v1 : w1.heap[w.heap.size + 1]? = some (.cells #[.int .i64 N, .float .f64 f, .string ⟨s.toArray⟩, .slice va 0 cap] 58 (0, 0)) := by rw [hw1]; exact heap_alloc_two _ _ _
 have HSZ1 : Hid (w1.heap.size = w.heap.size + 1 + 1) := hid (by rw [hw1]; simp)
 obtain ⟨i0, hi, hz0, hz1, hz2⟩ := info_parts Try.infoI64
 have HI0 := hid (And.intro hi (And.intro hz0 (And.intro hz1 hz2)))
 clear hrs hvs hk0 hk8 hmost hone hparts hnames hnone hkids hrk hVK hrb hown hnn hkz hn12 hsl hsz i3 i4 i5 i8 i9 i10 hi hz0 hz1 hz2
 go_enter Try.func7, Try.ntmps7
 go_upto_region 1 with fail
 rw [<- hw1]
 obtain ⟨vb, hvb⟩ : ∃ vb, w.heap.size + 1 = vb := ⟨_, rfl⟩
 rw [hvb] at v1 HSZ1 ⊢
 have HVB := hid hvb
 obtain ⟨tb, htb⟩ : ∃ tb, w.heap.size = tb := ⟨_, rfl⟩
 rw [htb] at q1 ⊢
 have HTB := hid htb
 obtain ⟨c0, c1, c2, c3⟩ := cell_of_four q1
 obtain ⟨d0, d1, d2, d3⟩ := cell_of_four v1
 have H1 := hid (And.intro f1 (And.intro q1 v1))
 clear hw1 f1 q1 v1 hvb htb
 rw [show ((⟨s.toArray⟩ : ByteArray).size) = s.length by simp [ByteArray.size]] at *
 go_wp2
 go_ret
 refine ⟨_, rfl, ?_, H1.out.1.trans ((Fr.refl (fun _ => False) _).alloc _) fid2⟩
 rw [HE.out]
 exact iown_one _ _ _ H1.out.1.size

set_option maxRecDepth 100000 in
theorem rflat_k5 (k : Nat) (m : Int) (ns : List Txt) (n : Nat) (of : Nat -> KT) (ih : ∀ i, RFlatAt (of i)) (hk0 : k = 5) : RFlatAt (.mk k m ns n of) := by
 intro R v vv w T hgood hrs0 hvs0 his hsz
 have hrs : RShows (fun k => k < w.heap.size) w (.mk k m ns n of) v := RShows.mono (fun k hk _ => hk) _ _ hrs0
 have hvs : VShows (fun k => k < w.heap.size) w T vv := VShows.mono (fun k hk _ => hk) _ _ hvs0
 clear hrs0 hvs0
 obtain ⟨⟨hn12, hown⟩, hkids⟩ := hgood
 obtain ⟨hk8, hmost, hone, hparts, hnames, hnone⟩ := own_facts hown
 obtain ⟨_, _, _, _, _, a', c', e1, rfl, hrb, hrk⟩ := rshows_open hrs
 cases e1
 obtain ⟨N, f, s, c, ov, va, cap, rfl, rfl, hVB, hVK⟩ := vshows_open hvs
 obtain ⟨hN0, hN1, hf64, hsl, hc5⟩ := hVB
 rw [isE_iff] at his
 obtain ⟨_, _, i3, i4, i5, _, _, i8, i9, i10⟩ := his
 obtain ⟨nn, hnn⟩ : ∃ nn, ns.length = nn := ⟨_, rfl⟩
 have hn1 : n = 1 := hone hk0
 have HIX : Hid (∀ j, j < c -> 0 < n /\ isE (of 0) (ov j) = true) := hid (fun j hj => ⟨by omega, by have := i10 j hj; rwa [if_neg (by omega), if_neg (by omega)] at this⟩)
 have HE : Hid (flE (.mk k m ns n of) (.mk N f s c ov) = accE [(c : Int)] (fun i => flE (of 0) (ov i)) c) := hid (by
  rw [flE, if_neg (by omega), if_neg (by omega)]
  unfold accE
  subst hk0
  simp)
 have HLEN : Hid (∀ j, j < c -> (accE [(c : Int)] (fun i => flE (of 0) (ov i)) j).length + (flE (of 0) (ov j)).length <= 200001 /\ szV (ov j) <= 100000) := hid (fun j hj => by
  have h1 := accE_len [(c : Int)] (fun i => of 0) ov j
  have h2 := flE_len (of 0) (ov j)
  have h3 := sumTo_le (fun i => szV (ov i)) j c hj
  rw [szV] at hsz
  unfold sumTo at h1 h3
  simp only [List.length_cons, List.length_nil] at h1
  omega)
 have hlen : ((⟨s.toArray⟩ : ByteArray).size : Int) = (s.length : Int) := by simp [ByteArray.size]
 have HRK := hid hrk
 have HVK := hid hVK
 have HKIDS := hid hkids
 unfold sv
 rw [hnn] at hrb ⊢
 have hnn1 : nn <= 1000 := hrb.2.1
 have hn1000 : n <= 1000 := hrb.2.2
 obtain ⟨kz, hkz⟩ : ∃ kz : Int, (k : Int) = kz := ⟨_, rfl⟩
 rw [hkz]
 have e3 : (kz == 3) = false := by simp; omega
 have e4 : (kz == 4) = false := by simp; omega
 have e5 : (kz == 5) = true := by simp; omega
 have e6 : (kz == 6) = false := by simp; omega
 have e8 : (kz == 8) = false := by simp; omega
 have g1 : decide (kz < 3) = false := by simp; omega
 have g2 : decide (6 < kz) = false := by simp; omega
 obtain ⟨w1, hw1⟩ : ∃ w1, w1 = (w.alloc (.cells #[.int .i64 kz, .int .i64 m, .int .i64 (nn : Nat), .slice a' n c'] 54)).alloc (.cells #[.int .i64 N, .float .f64 f, .string ⟨s.toArray⟩, .slice va c cap] 58) := ⟨_, rfl⟩
 have f1 : Fr (fun _ => False) w w1 := by rw [hw1]; exact ((Fr.refl _ _).alloc _).alloc _
 have q1 : w1.heap[w.heap.size]? = some (.cells #[.int .i64 kz, .int .i64 m, .int .i64 (nn : Nat), .slice a' n c'] 54 (0, 0)) := by rw [hw1]; exact heap_alloc_first _ _ _
 have v1 : w1.heap[w.heap.size + 1]? = some (.cells #[.int .i64 N, .float .f64 f, .string ⟨s.toArray⟩, .slice va c cap] 58 (0, 0)) := by rw [hw1]; exact heap_alloc_two _ _ _
 have HSZ1 : Hid (w1.heap.size = w.heap.size + 1 + 1) := hid (by rw [hw1]; simp)
 obtain ⟨i0, hi, hz0, hz1, hz2⟩ := info_parts Try.infoI64
 have HI0 := hid (And.intro hi (And.intro hz0 (And.intro hz1 hz2)))
 clear hrs hvs hk0 hk8 hmost hone hparts hnames hnone hkids hrk hVK hrb hown hnn hkz hn12 hsl hsz i3 i4 i5 i8 i9 i10 hi hz0 hz1 hz2 hn1
 go_enter Try.func7, Try.ntmps7
 go_upto_region 1 with fail
 rw [<- hw1]
 obtain ⟨vb, hvb⟩ : ∃ vb, w.heap.size + 1 = vb := ⟨_, rfl⟩
 rw [hvb] at v1 HSZ1 ⊢
 have HVB := hid hvb
 obtain ⟨tb, htb⟩ : ∃ tb, w.heap.size = tb := ⟨_, rfl⟩
 rw [htb] at q1 ⊢
 have HTB := hid htb
 obtain ⟨c0, c1, c2, c3⟩ := cell_of_four q1
 obtain ⟨d0, d1, d2, d3⟩ := cell_of_four v1
 have H1 := hid (And.intro f1 (And.intro q1 v1))
 clear hw1 f1 q1 v1 hvb htb
 have q2 : (w1.alloc (.cells #[.int .i64 (c : Int)] 2)).heap[w1.heap.size]? = some (.cells #[.int .i64 (c : Int)] 2 (0, 0)) := heap_alloc_new _ _
 have Q2 := hid q2
 have HB1 := hid (show w1.heap.size <= (w1.alloc (.cells #[.int .i64 (c : Int)] 2)).heap.size by simp)
 clear q2
 go_wp2_with (at_builtin; refine wpList_append_sep rfl (.tmp 25) (.tmp 29) 28 28 rfl w1.heap.size 2 i0 (.int .i64 0) 1 8 Try.underlying28 _ Try.underlying28 (.inr ⟨_, rfl⟩) HI0.out.1 HI0.out.2.1 HI0.out.2.2.1 HI0.out.2.2.2 rfl (by decide) (.slice none 0 0) 0 [] rfl ?own (.slice (some ⟨w1.heap.size, 0, none⟩) 1 1) 1 [.int .i64 (c : Int)] rfl (fun w => lenOf_slice _ _ _ _) rfl ?fc1 ?fc2 ?one ?b1 ?b2 ?base ?grow)
 case own => exact ⟨rfl, .inl ⟨rfl, rfl⟩⟩
 case fc1 => exact first_one 1 1 rfl Q2.out
 case fc2 => exact first_one 1 1 rfl (w := World.drew _) Q2.out
 case one => intro u hu; simp at hu; subst hu; rfl
 case b1 => unfold maxLen; omega
 case b2 => omega
 case base => exact HB1.out
 case grow =>
 intro v2 w2 hown hg2 hv2
 have f2 : Fr (fun _ => False) w1 w2 := ((Fr.refl (fun _ => False) w1).alloc (.cells #[.int .i64 (c : Int)] 2)).trans ((Fr.of_grown hg2).mono (fun _ _ e => by simp [Value.ownBlock] at e)) fid2
 have hown2 : IOwn w1.heap.size w2 v2 [(c : Int)] := hown
 have HO2 := hid (And.intro f2 hown2)
 clear hown hg2 hv2 f2 hown2
 have c0 := cells_row (box_kept H1.out.2.1 HO2.out.1 (fun h => h)) 0 _ rfl
 have d3 := cells_row (box_kept H1.out.2.2 HO2.out.1 (fun h => h)) 3 _ rfl
 go_wp2
 clear c0 c1 c2 c3 d0 d1 d2 d3
 go_loopg [5, 6, 7] c (fun G u5 u6 u7 wr => ∃ j : Nat, j <= c /\ G = c - j /\ u6 = .int .i64 j /\ Hid (IOwn w1.heap.size wr u5 (accE [(c : Int)] (fun i => flE (of 0) (ov i)) j) /\ Fr (fun _ => False) w1 wr))
 case atStart => exact ⟨0, Nat.zero_le _, rfl, by go_num, hid ⟨by rw [accE_zero]; exact HO2.out.2, HO2.out.1⟩⟩
 case round =>
  obtain ⟨j, hj, rfl, rfl, HI⟩ := hrel
  obtain ⟨qa, qc, e5⟩ := slice_of_own HI.out.1
  subst e5
  have qr := box_kept H1.out.2.1 HI.out.2 (fun h => h)
  have vr := box_kept H1.out.2.2 HI.out.2 (fun h => h)
  have c0 := cells_row qr 0 _ rfl
  have c3 := cells_row qr 3 _ rfl
  have d0 := cells_row vr 0 _ rfl
  have d3 := cells_row vr 3 _ rfl
  have HQR := hid (And.intro qr vr)
  clear qr vr
  by_cases hlt : j < c
  ·obtain ⟨hxn, hix⟩ := HIX.out j hlt
   have HIXX := hid hix
   rcases HRK.out with hz | ⟨hcap, g, off, hg, rfl, hcell⟩
   ·omega
   rcases HVK.out with hz | ⟨hvcap, gv, ov', hgv, rfl, hvcell⟩
   ·omega
   obtain ⟨x0', x1, x2, x3, y0, y1, y2, y3, hx⟩ := hcell 0 hxn
   obtain ⟨s0, s1, s2, s3, r0, r1, r2, r3, hs⟩ := hvcell j hlt
   obtain ⟨ak, am, an, aa, ac, acap, ex⟩ := hx.lit
   simp only [Value.agg.injEq, Array.mk.injEq, List.cons.injEq, and_true] at ex
   obtain ⟨rfl, rfl, rfl, rfl⟩ := ex
   obtain ⟨zn, zf, zs, za, zc, zcap, es⟩ := hs.lit
   simp only [Value.agg.injEq, Array.mk.injEq, List.cons.injEq, and_true] at es
   obtain ⟨rfl, rfl, rfl, rfl⟩ := es
   simp only [Nat.zero_mul, Nat.add_zero] at y0 y1 y2 y3
   have HY := hid (And.intro hg (And.intro y0 (And.intro y1 (And.intro y2 y3))))
   have HR := hid (And.intro hgv (And.intro r0 (And.intro r1 (And.intro r2 r3))))
   have HX := hid (And.intro hx hs)
   have HLT := hid hlt
   have HLN := hid (HLEN.out j hlt)
   have jc : (j : Int) < (c : Int) := by omega
   have n0 : 0 < n := hxn
   clear hcell hvcell hx hs y0 y1 y2 y3 r0 r1 r2 r3 hix
   have HXN := hid hxn
   have HSC := hid (accE_succ [(c : Int)] (fun i => flE (of 0) (ov i)) j)
   have HOG := hid (fun k (hk : (Value.slice qa (accE [(c : Int)] (fun i => flE (of 0) (ov i)) j).length qc).ownBlock = some k) => HI.out.1.ge hk)
   clear hxn
   generalize hacc : accE [(c : Int)] (fun i => flE (of 0) (ov i)) j = acc at *
   clear hacc
   go_upto_region 18 with fail
   clear c0 c3 d0 d3
   have HF0 := hid (H1.out.1.trans HI.out.2 fid2)
   have HSZR := hid (show w.heap.size <= w1.heap.size /\ w1.heap.size <= wr.heap.size from ⟨H1.out.1.size, HI.out.2.size⟩)
   have HTV : Hid (tb < w1.heap.size /\ vb < w1.heap.size) := hid ⟨lt_of_block H1.out.2.1, lt_of_block H1.out.2.2⟩
   refine wp_region_chain (by kernel_rfl) [some 60, some 61, some 62, some 63, some 64, some 65, some 66, some 67, some 68, some 69, some 70, some 71, some 72, some 5] rfl (by decide) (by intro d hd; simp at hd ⊢; omega)
    [11, 12, 13] (fun cvs wx => RfS w1.heap.size wr (.slice qa acc.length qc) acc (flE (of 0) (ov j)) cvs wx)
    [.free (.slice qa acc.length qc), .free (.pointer (some ⟨tb, 3, none⟩)), .free (.slice (some ⟨g, off, none⟩) n c'), .free (.int .i64 0), .free (.pointer (some ⟨g, off, none⟩)), .free (.agg #[.int .i64 ak, .int .i64 am, .int .i64 an, .slice aa ac acap]),
     .free (.pointer (some ⟨vb, 3, none⟩)), .free (.slice (some ⟨gv, ov', none⟩) c cap), .free (.int .i64 j), .free (.pointer (some ⟨gv, ov' + j * 4, none⟩)), .free (.agg #[.int .i64 zn, .float .f64 zf, .string zs, .slice za zc zcap]), .link none, .link none, .link none]
    (by kernel_rfl) (by kernel_rfl) ?h0 ?step ?fin
   case h0 => exact (Fr.refl _ _).drew
   case step =>
    intro vals2
    simp only [frOfU, fillU, zsl]
    repeat' (first | exact AllOps.nil | refine AllOps.cons ?_ ?_)
    all_goals
     intro cvs wx hS he hu hlim K hK
     simp only [Act.put, zsl, zgl] at hK
     simp only [zml, Region.binds, forall_const, vmode_gc, Bool.false_eq_true, false_imp_iff, zgl, OpSort.val, Option.some.injEq, forall_eq', reduceCtorEq, implies_true, true_and, and_true] at he
     have HSX := hid hS
     clear hS
    all_goals first | (clear hlim hu; (try simp only [he] at hK ⊢); go_simp; exact hK) | skip
    ·have h13 : vals2 13 = .slice qa acc.length qc := hu 13 (by simp) (by kernel_rfl)
     clear hlim hu he
     simp only [Nat.reduceAdd, h13] at hK ⊢
     go_simp
     exact hK
    ·have l3 := cells_row (box_kept HQR.out.1 HSX.out.fr (fun h => by have := HOG.out _ h; have := HTV.out.1; omega)) 3 _ rfl
     clear hlim hu
     simp only [he] at hK ⊢
     go_simp
     exact hK
    ·have hgn : ¬ (Value.slice qa acc.length qc).ownBlock = some g := fun h => by have := HOG.out _ h; have := HY.out.1; have := HSZR.out.1; omega
     have e0 := cell_fr HSX.out.fr (R := fun k => k = g) (fun k hk h => by subst hk; exact hgn h) rfl (cell_fr (R := fun k => k < w.heap.size) HF0.out fid2 HY.out.1 HY.out.2.1)
     have e1 := cell_fr HSX.out.fr (R := fun k => k = g) (fun k hk h => by subst hk; exact hgn h) rfl (cell_fr (R := fun k => k < w.heap.size) HF0.out fid2 HY.out.1 HY.out.2.2.1)
     have e2 := cell_fr HSX.out.fr (R := fun k => k = g) (fun k hk h => by subst hk; exact hgn h) rfl (cell_fr (R := fun k => k < w.heap.size) HF0.out fid2 HY.out.1 HY.out.2.2.2.1)
     have e3 := cell_fr HSX.out.fr (R := fun k => k = g) (fun k hk h => by subst hk; exact hgn h) rfl (cell_fr (R := fun k => k < w.heap.size) HF0.out fid2 HY.out.1 HY.out.2.2.2.2)
     clear hlim hu hgn
     simp only [he] at hK ⊢
     go_simp
     exact hK
    ·have l3 := cells_row (box_kept HQR.out.2 HSX.out.fr (fun h => by have := HOG.out _ h; have := HTV.out.2; omega)) 3 _ rfl
     clear hlim hu
     simp only [he] at hK ⊢
     go_simp
     exact hK
    ·have hgn : ¬ (Value.slice qa acc.length qc).ownBlock = some gv := fun h => by have := HOG.out _ h; have := HR.out.1; have := HSZR.out.1; omega
     have e0 := cell_fr HSX.out.fr (R := fun k => k = gv) (fun k hk h => by subst hk; exact hgn h) rfl (cell_fr (R := fun k => k < w.heap.size) HF0.out fid2 HR.out.1 HR.out.2.1)
     have e1 := cell_fr HSX.out.fr (R := fun k => k = gv) (fun k hk h => by subst hk; exact hgn h) rfl (cell_fr (R := fun k => k < w.heap.size) HF0.out fid2 HR.out.1 HR.out.2.2.1)
     have e2 := cell_fr HSX.out.fr (R := fun k => k = gv) (fun k hk h => by subst hk; exact hgn h) rfl (cell_fr (R := fun k => k < w.heap.size) HF0.out fid2 HR.out.1 HR.out.2.2.2.1)
     have e3 := cell_fr HSX.out.fr (R := fun k => k = gv) (fun k hk h => by subst hk; exact hgn h) rfl (cell_fr (R := fun k => k < w.heap.size) HF0.out fid2 HR.out.1 HR.out.2.2.2.2)
     clear hlim hu hgn
     simp only [he] at hK ⊢
     go_simp
     exact hK
    ·obtain rfl := hlim (0 : Nat) rfl
     have h1 : Fr (fun _ => False) wr wx := HSX.out
     have H2 := hid (And.intro h1 (HF0.out.trans h1 fid2))
     clear hlim hu HSX h1
     simp only [he] at hK ⊢
     go_simp
     go_at_call 7
     refine (ih 0 _ _ _ wx (ov j) (HKIDS.out 0 HXN.out) (RShows.fr H2.out.2 fid2 _ _ HX.out.1) (VShows.fr H2.out.2 fid2 _ _ HX.out.2) HIXX.out HLN.out.2).mono ?_
     rintro er wa ⟨nv, rfl, ho, fa⟩
     exact hK _ _ (fun _ h => by cases h) ⟨H2.out.1.trans fa fid2, ho.le H2.out.1.size⟩
    ·obtain rfl := hlim (1 : Nat) rfl
     have h1 : Fr (fun _ => False) wr wx /\ IOwn wr.heap.size wx (vals2 11) (flE (of 0) (ov j)) := HSX.out
     clear hlim hu HSX
     obtain ⟨na, nc, e11⟩ := slice_of_own h1.2
     have hli := HLN.out.1
     rw [if_pos (by rfl)]
     refine opWp_append (.tmp 60) (.tmp 71) 28 28 rfl w1.heap.size 2 i0 (.int .i64 0) 1 8 Try.underlying28 _ Try.underlying28 (.inr ⟨_, rfl⟩) HI0.out.1 HI0.out.2.1 HI0.out.2.2.1 HI0.out.2.2.2 rfl (by decide) (.slice qa acc.length qc) acc.length (acc.map (Value.int .i64)) he (ownsRow_fr HI.out.1 h1.1 fid2) (vals2 11) (flE (of 0) (ov j)).length ((flE (of 0) (ov j)).map (Value.int .i64)) rfl (fun w => by rw [e11]; exact lenOf_slice _ _ _ _) (by simp) h1.2.first (IOwn.first (w := World.drew _) (ownsRow_fr h1.2 (Fr.refl (fun _ => False) _).drew fid2)) (by intro u hu; obtain ⟨x, _, rfl⟩ := List.mem_map.1 hu; rfl) (by unfold maxLen; omega) (by omega) (by have := HSZR.out.2; have := h1.1.size; omega) ?_
     intro v' w8 hrow hgr hv
     have hrow2 : IOwn w1.heap.size w8 v' (acc ++ flE (of 0) (ov j)) := by
      unfold IOwn
      rw [List.length_append, List.map_append]
      exact hrow
     exact hK _ _ (fun _ h => by cases h) ⟨(h1.1.mono (fun _ _ h => h.elim)).trans ((Fr.of_grown hgr).mono (fun _ _ e => e.symm)) fid2, hrow2⟩
    ·obtain rfl := hlim (2 : Nat) rfl
     have h1 : Fr (fun k => (Value.slice qa acc.length qc).ownBlock = some k) wr wx /\ IOwn w1.heap.size wx (vals2 12) (acc ++ flE (of 0) (ov j)) := HSX.out
     have H2 := hid h1
     clear hlim hu HSX h1
     (try simp only [he] at hK ⊢)
     go_simp
     exact hK _ _ (fun _ h => by cases h) H2.out
   case fin =>
    intro vals2 w7 hS hV
    clear hV
    have h7 : Fr (fun k => (Value.slice qa acc.length qc).ownBlock = some k) wr w7 /\ IOwn w1.heap.size w7 (vals2 13) (acc ++ flE (of 0) (ov j)) := hS
    have H7 := hid (And.intro (rfl_new HI.out.2 (fun k hk => HOG.out k hk) h7.1) h7.2)
    clear hS h7
    simp only [frOfU, fillU, zsl]
    go_wp2
    go_roundg (c - (j + 1))
    case measure => have := HLT.out; omega
    case rel => exact ⟨j + 1, HLT.out, rfl, by go_num, hid ⟨by rw [HSC.out]; exact H7.out.2, H7.out.1⟩⟩
  ·obtain rfl : j = c := by omega
   go_wp2
   go_ret
   refine ⟨_, rfl, ?_, H1.out.1.trans HI.out.2 fid2⟩
   rw [HE.out]
   exact HI.out.1.le H1.out.1.size

set_option maxRecDepth 100000 in
theorem rflat_k6 (k : Nat) (m : Int) (ns : List Txt) (n : Nat) (of : Nat -> KT) (ih : ∀ i, RFlatAt (of i)) (hk0 : k = 6) : RFlatAt (.mk k m ns n of) := by
 intro R v vv w T hgood hrs0 hvs0 his hsz
 have hrs : RShows (fun k => k < w.heap.size) w (.mk k m ns n of) v := RShows.mono (fun k hk _ => hk) _ _ hrs0
 have hvs : VShows (fun k => k < w.heap.size) w T vv := VShows.mono (fun k hk _ => hk) _ _ hvs0
 clear hrs0 hvs0
 obtain ⟨⟨hn12, hown⟩, hkids⟩ := hgood
 obtain ⟨hk8, hmost, hone, hparts, hnames, hnone⟩ := own_facts hown
 obtain ⟨_, _, _, _, _, a', c', e1, rfl, hrb, hrk⟩ := rshows_open hrs
 cases e1
 obtain ⟨N, f, s, c, ov, va, cap, rfl, rfl, hVB, hVK⟩ := vshows_open hvs
 obtain ⟨hN0, hN1, hf64, hsl, hc5⟩ := hVB
 rw [isE_iff] at his
 obtain ⟨_, _, i3, i4, i5, _, _, i8, i9, i10⟩ := his
 obtain ⟨nn, hnn⟩ : ∃ nn, ns.length = nn := ⟨_, rfl⟩
 have hcn : c = n := i8 hk0
 have HIX : Hid (∀ j, j < c -> j < n /\ isE (of j) (ov j) = true) := hid (fun j hj => ⟨by omega, by have := i10 j hj; rwa [if_pos hk0] at this⟩)
 have HE : Hid (flE (.mk k m ns n of) (.mk N f s c ov) = accE [] (fun i => flE (of i) (ov i)) c) := hid (by
  rw [flE, if_neg (by omega), if_neg (by omega)]
  unfold accE
  subst hk0
  simp)
 have HLEN : Hid (∀ j, j < c -> (accE [] (fun i => flE (of i) (ov i)) j).length + (flE (of j) (ov j)).length <= 200001 /\ szV (ov j) <= 100000) := hid (fun j hj => by
  have h1 := accE_len [] (fun i => of i) ov j
  have h2 := flE_len (of j) (ov j)
  have h3 := sumTo_le (fun i => szV (ov i)) j c hj
  rw [szV] at hsz
  unfold sumTo at h1 h3
  simp only [List.length_cons, List.length_nil] at h1
  omega)
 have hlen : ((⟨s.toArray⟩ : ByteArray).size : Int) = (s.length : Int) := by simp [ByteArray.size]
 have HRK := hid hrk
 have HVK := hid hVK
 have HKIDS := hid hkids
 unfold sv
 rw [hnn] at hrb ⊢
 have hnn1 : nn <= 1000 := hrb.2.1
 have hn1000 : n <= 1000 := hrb.2.2
 obtain ⟨kz, hkz⟩ : ∃ kz : Int, (k : Int) = kz := ⟨_, rfl⟩
 rw [hkz]
 have e3 : (kz == 3) = false := by simp; omega
 have e4 : (kz == 4) = false := by simp; omega
 have e5 : (kz == 5) = false := by simp; omega
 have e6 : (kz == 6) = true := by simp; omega
 have e8 : (kz == 8) = false := by simp; omega
 have g1 : decide (kz < 3) = false := by simp; omega
 have g2 : decide (6 < kz) = false := by simp; omega
 obtain ⟨w1, hw1⟩ : ∃ w1, w1 = (w.alloc (.cells #[.int .i64 kz, .int .i64 m, .int .i64 (nn : Nat), .slice a' n c'] 54)).alloc (.cells #[.int .i64 N, .float .f64 f, .string ⟨s.toArray⟩, .slice va c cap] 58) := ⟨_, rfl⟩
 have f1 : Fr (fun _ => False) w w1 := by rw [hw1]; exact ((Fr.refl _ _).alloc _).alloc _
 have q1 : w1.heap[w.heap.size]? = some (.cells #[.int .i64 kz, .int .i64 m, .int .i64 (nn : Nat), .slice a' n c'] 54 (0, 0)) := by rw [hw1]; exact heap_alloc_first _ _ _
 have v1 : w1.heap[w.heap.size + 1]? = some (.cells #[.int .i64 N, .float .f64 f, .string ⟨s.toArray⟩, .slice va c cap] 58 (0, 0)) := by rw [hw1]; exact heap_alloc_two _ _ _
 have HSZ1 : Hid (w1.heap.size = w.heap.size + 1 + 1) := hid (by rw [hw1]; simp)
 obtain ⟨i0, hi, hz0, hz1, hz2⟩ := info_parts Try.infoI64
 have HI0 := hid (And.intro hi (And.intro hz0 (And.intro hz1 hz2)))
 clear hrs hvs hk0 hk8 hmost hone hparts hnames hnone hkids hrk hVK hrb hown hnn hkz hn12 hsl hsz i3 i4 i5 i8 i9 i10 hi hz0 hz1 hz2 hcn
 go_enter Try.func7, Try.ntmps7
 go_upto_region 1 with fail
 rw [<- hw1]
 obtain ⟨vb, hvb⟩ : ∃ vb, w.heap.size + 1 = vb := ⟨_, rfl⟩
 rw [hvb] at v1 HSZ1 ⊢
 have HVB := hid hvb
 obtain ⟨tb, htb⟩ : ∃ tb, w.heap.size = tb := ⟨_, rfl⟩
 rw [htb] at q1 ⊢
 have HTB := hid htb
 obtain ⟨c0, c1, c2, c3⟩ := cell_of_four q1
 obtain ⟨d0, d1, d2, d3⟩ := cell_of_four v1
 have H1 := hid (And.intro f1 (And.intro q1 v1))
 clear hw1 f1 q1 v1 hvb htb
 go_wp2
 clear c0 c1 c2 c3 d0 d1 d2 d3
 go_loopg [5, 6, 7] c (fun G u5 u6 u7 wr => ∃ j : Nat, j <= c /\ G = c - j /\ u6 = .int .i64 j /\ Hid (IOwn w1.heap.size wr u5 (accE [] (fun i => flE (of i) (ov i)) j) /\ Fr (fun _ => False) w1 wr))
 case atStart => exact ⟨0, Nat.zero_le _, rfl, by go_num, hid ⟨by rw [accE_zero]; exact IOwn.nil _ _, Fr.refl _ _⟩⟩
 case round =>
  obtain ⟨j, hj, rfl, rfl, HI⟩ := hrel
  obtain ⟨qa, qc, e5⟩ := slice_of_own HI.out.1
  subst e5
  have qr := box_kept H1.out.2.1 HI.out.2 (fun h => h)
  have vr := box_kept H1.out.2.2 HI.out.2 (fun h => h)
  have c0 := cells_row qr 0 _ rfl
  have c3 := cells_row qr 3 _ rfl
  have d0 := cells_row vr 0 _ rfl
  have d3 := cells_row vr 3 _ rfl
  have HQR := hid (And.intro qr vr)
  clear qr vr
  by_cases hlt : j < c
  ·obtain ⟨hxn, hix⟩ := HIX.out j hlt
   have HIXX := hid hix
   rcases HRK.out with hz | ⟨hcap, g, off, hg, rfl, hcell⟩
   ·omega
   rcases HVK.out with hz | ⟨hvcap, gv, ov', hgv, rfl, hvcell⟩
   ·omega
   obtain ⟨x0', x1, x2, x3, y0, y1, y2, y3, hx⟩ := hcell j hxn
   obtain ⟨s0, s1, s2, s3, r0, r1, r2, r3, hs⟩ := hvcell j hlt
   obtain ⟨ak, am, an, aa, ac, acap, ex⟩ := hx.lit
   simp only [Value.agg.injEq, Array.mk.injEq, List.cons.injEq, and_true] at ex
   obtain ⟨rfl, rfl, rfl, rfl⟩ := ex
   obtain ⟨zn, zf, zs, za, zc, zcap, es⟩ := hs.lit
   simp only [Value.agg.injEq, Array.mk.injEq, List.cons.injEq, and_true] at es
   obtain ⟨rfl, rfl, rfl, rfl⟩ := es
   have HY := hid (And.intro hg (And.intro y0 (And.intro y1 (And.intro y2 y3))))
   have HR := hid (And.intro hgv (And.intro r0 (And.intro r1 (And.intro r2 r3))))
   have HX := hid (And.intro hx hs)
   have HLT := hid hlt
   have HLN := hid (HLEN.out j hlt)
   have jc : (j : Int) < (c : Int) := by omega
   have jn : (j : Int) < (n : Int) := by omega
   clear hcell hvcell hx hs y0 y1 y2 y3 r0 r1 r2 r3 hix
   have HXN := hid hxn
   have HSC := hid (accE_succ [] (fun i => flE (of i) (ov i)) j)
   have HOG := hid (fun k (hk : (Value.slice qa (accE [] (fun i => flE (of i) (ov i)) j).length qc).ownBlock = some k) => HI.out.1.ge hk)
   clear hxn
   generalize hacc : accE [] (fun i => flE (of i) (ov i)) j = acc at *
   clear hacc
   go_upto_region 18 with fail
   clear c0 c3 d0 d3
   have HF0 := hid (H1.out.1.trans HI.out.2 fid2)
   have HSZR := hid (show w.heap.size <= w1.heap.size /\ w1.heap.size <= wr.heap.size from ⟨H1.out.1.size, HI.out.2.size⟩)
   have HTV : Hid (tb < w1.heap.size /\ vb < w1.heap.size) := hid ⟨lt_of_block H1.out.2.1, lt_of_block H1.out.2.2⟩
   refine wp_region_chain (by kernel_rfl) [some 60, some 61, some 62, some 63, some 64, some 65, some 66, some 67, some 68, some 69, some 70, some 71, some 72, some 5] rfl (by decide) (by intro d hd; simp at hd ⊢; omega)
    [11, 12, 13] (fun cvs wx => RfS w1.heap.size wr (.slice qa acc.length qc) acc (flE (of j) (ov j)) cvs wx)
    [.free (.slice qa acc.length qc), .free (.pointer (some ⟨tb, 3, none⟩)), .free (.slice (some ⟨g, off, none⟩) n c'), .free (.int .i64 j), .free (.pointer (some ⟨g, off + j * 4, none⟩)), .free (.agg #[.int .i64 ak, .int .i64 am, .int .i64 an, .slice aa ac acap]),
     .free (.pointer (some ⟨vb, 3, none⟩)), .free (.slice (some ⟨gv, ov', none⟩) c cap), .free (.int .i64 j), .free (.pointer (some ⟨gv, ov' + j * 4, none⟩)), .free (.agg #[.int .i64 zn, .float .f64 zf, .string zs, .slice za zc zcap]), .link none, .link none, .link none]
    (by kernel_rfl) (by kernel_rfl) ?h0 ?step ?fin
   case h0 => exact (Fr.refl _ _).drew
   case step =>
    intro vals2
    simp only [frOfU, fillU, zsl]
    repeat' (first | exact AllOps.nil | refine AllOps.cons ?_ ?_)
    all_goals
     intro cvs wx hS he hu hlim K hK
     simp only [Act.put, zsl, zgl] at hK
     simp only [zml, Region.binds, forall_const, vmode_gc, Bool.false_eq_true, false_imp_iff, zgl, OpSort.val, Option.some.injEq, forall_eq', reduceCtorEq, implies_true, true_and, and_true] at he
     have HSX := hid hS
     clear hS
    all_goals first | (clear hlim hu; (try simp only [he] at hK ⊢); go_simp; exact hK) | skip
    ·have h13 : vals2 13 = .slice qa acc.length qc := hu 13 (by simp) (by kernel_rfl)
     clear hlim hu he
     simp only [Nat.reduceAdd, h13] at hK ⊢
     go_simp
     exact hK
    ·have l3 := cells_row (box_kept HQR.out.1 HSX.out.fr (fun h => by have := HOG.out _ h; have := HTV.out.1; omega)) 3 _ rfl
     clear hlim hu
     simp only [he] at hK ⊢
     go_simp
     exact hK
    ·have hgn : ¬ (Value.slice qa acc.length qc).ownBlock = some g := fun h => by have := HOG.out _ h; have := HY.out.1; have := HSZR.out.1; omega
     have e0 := cell_fr HSX.out.fr (R := fun k => k = g) (fun k hk h => by subst hk; exact hgn h) rfl (cell_fr (R := fun k => k < w.heap.size) HF0.out fid2 HY.out.1 HY.out.2.1)
     have e1 := cell_fr HSX.out.fr (R := fun k => k = g) (fun k hk h => by subst hk; exact hgn h) rfl (cell_fr (R := fun k => k < w.heap.size) HF0.out fid2 HY.out.1 HY.out.2.2.1)
     have e2 := cell_fr HSX.out.fr (R := fun k => k = g) (fun k hk h => by subst hk; exact hgn h) rfl (cell_fr (R := fun k => k < w.heap.size) HF0.out fid2 HY.out.1 HY.out.2.2.2.1)
     have e3 := cell_fr HSX.out.fr (R := fun k => k = g) (fun k hk h => by subst hk; exact hgn h) rfl (cell_fr (R := fun k => k < w.heap.size) HF0.out fid2 HY.out.1 HY.out.2.2.2.2)
     clear hlim hu hgn
     simp only [he] at hK ⊢
     go_simp
     exact hK
    ·have l3 := cells_row (box_kept HQR.out.2 HSX.out.fr (fun h => by have := HOG.out _ h; have := HTV.out.2; omega)) 3 _ rfl
     clear hlim hu
     simp only [he] at hK ⊢
     go_simp
     exact hK
    ·have hgn : ¬ (Value.slice qa acc.length qc).ownBlock = some gv := fun h => by have := HOG.out _ h; have := HR.out.1; have := HSZR.out.1; omega
     have e0 := cell_fr HSX.out.fr (R := fun k => k = gv) (fun k hk h => by subst hk; exact hgn h) rfl (cell_fr (R := fun k => k < w.heap.size) HF0.out fid2 HR.out.1 HR.out.2.1)
     have e1 := cell_fr HSX.out.fr (R := fun k => k = gv) (fun k hk h => by subst hk; exact hgn h) rfl (cell_fr (R := fun k => k < w.heap.size) HF0.out fid2 HR.out.1 HR.out.2.2.1)
     have e2 := cell_fr HSX.out.fr (R := fun k => k = gv) (fun k hk h => by subst hk; exact hgn h) rfl (cell_fr (R := fun k => k < w.heap.size) HF0.out fid2 HR.out.1 HR.out.2.2.2.1)
     have e3 := cell_fr HSX.out.fr (R := fun k => k = gv) (fun k hk h => by subst hk; exact hgn h) rfl (cell_fr (R := fun k => k < w.heap.size) HF0.out fid2 HR.out.1 HR.out.2.2.2.2)
     clear hlim hu hgn
     simp only [he] at hK ⊢
     go_simp
     exact hK
    ·obtain rfl := hlim (0 : Nat) rfl
     have h1 : Fr (fun _ => False) wr wx := HSX.out
     have H2 := hid (And.intro h1 (HF0.out.trans h1 fid2))
     clear hlim hu HSX h1
     simp only [he] at hK ⊢
     go_simp
     go_at_call 7
     refine (ih j _ _ _ wx (ov j) (HKIDS.out j HXN.out) (RShows.fr H2.out.2 fid2 _ _ HX.out.1) (VShows.fr H2.out.2 fid2 _ _ HX.out.2) HIXX.out HLN.out.2).mono ?_
     rintro er wa ⟨nv, rfl, ho, fa⟩
     exact hK _ _ (fun _ h => by cases h) ⟨H2.out.1.trans fa fid2, ho.le H2.out.1.size⟩
    ·obtain rfl := hlim (1 : Nat) rfl
     have h1 : Fr (fun _ => False) wr wx /\ IOwn wr.heap.size wx (vals2 11) (flE (of j) (ov j)) := HSX.out
     clear hlim hu HSX
     obtain ⟨na, nc, e11⟩ := slice_of_own h1.2
     have hli := HLN.out.1
     rw [if_pos (by rfl)]
     refine opWp_append (.tmp 60) (.tmp 71) 28 28 rfl w1.heap.size 2 i0 (.int .i64 0) 1 8 Try.underlying28 _ Try.underlying28 (.inr ⟨_, rfl⟩) HI0.out.1 HI0.out.2.1 HI0.out.2.2.1 HI0.out.2.2.2 rfl (by decide) (.slice qa acc.length qc) acc.length (acc.map (Value.int .i64)) he (ownsRow_fr HI.out.1 h1.1 fid2) (vals2 11) (flE (of j) (ov j)).length ((flE (of j) (ov j)).map (Value.int .i64)) rfl (fun w => by rw [e11]; exact lenOf_slice _ _ _ _) (by simp) h1.2.first (IOwn.first (w := World.drew _) (ownsRow_fr h1.2 (Fr.refl (fun _ => False) _).drew fid2)) (by intro u hu; obtain ⟨x, _, rfl⟩ := List.mem_map.1 hu; rfl) (by unfold maxLen; omega) (by omega) (by have := HSZR.out.2; have := h1.1.size; omega) ?_
     intro v' w8 hrow hgr hv
     have hrow2 : IOwn w1.heap.size w8 v' (acc ++ flE (of j) (ov j)) := by
      unfold IOwn
      rw [List.length_append, List.map_append]
      exact hrow
     exact hK _ _ (fun _ h => by cases h) ⟨(h1.1.mono (fun _ _ h => h.elim)).trans ((Fr.of_grown hgr).mono (fun _ _ e => e.symm)) fid2, hrow2⟩
    ·obtain rfl := hlim (2 : Nat) rfl
     have h1 : Fr (fun k => (Value.slice qa acc.length qc).ownBlock = some k) wr wx /\ IOwn w1.heap.size wx (vals2 12) (acc ++ flE (of j) (ov j)) := HSX.out
     have H2 := hid h1
     clear hlim hu HSX h1
     (try simp only [he] at hK ⊢)
     go_simp
     exact hK _ _ (fun _ h => by cases h) H2.out
   case fin =>
    intro vals2 w7 hS hV
    clear hV
    have h7 : Fr (fun k => (Value.slice qa acc.length qc).ownBlock = some k) wr w7 /\ IOwn w1.heap.size w7 (vals2 13) (acc ++ flE (of j) (ov j)) := hS
    have H7 := hid (And.intro (rfl_new HI.out.2 (fun k hk => HOG.out k hk) h7.1) h7.2)
    clear hS h7
    simp only [frOfU, fillU, zsl]
    go_wp2
    go_roundg (c - (j + 1))
    case measure => have := HLT.out; omega
    case rel => exact ⟨j + 1, HLT.out, rfl, by go_num, hid ⟨by rw [HSC.out]; exact H7.out.2, H7.out.1⟩⟩
  ·obtain rfl : j = c := by omega
   go_wp2
   go_ret
   refine ⟨_, rfl, ?_, H1.out.1.trans HI.out.2 fid2⟩
   rw [HE.out]
   exact HI.out.1.le H1.out.1.size

set_option maxRecDepth 100000 in
theorem rflat_k7 (k : Nat) (m : Int) (ns : List Txt) (n : Nat) (of : Nat -> KT) (ih : ∀ i, RFlatAt (of i)) (hk0 : k = 7) : RFlatAt (.mk k m ns n of) := by
 intro R v vv w T hgood hrs0 hvs0 his hsz
 have hrs : RShows (fun k => k < w.heap.size) w (.mk k m ns n of) v := RShows.mono (fun k hk _ => hk) _ _ hrs0
 have hvs : VShows (fun k => k < w.heap.size) w T vv := VShows.mono (fun k hk _ => hk) _ _ hvs0
 clear hrs0 hvs0
 obtain ⟨⟨hn12, hown⟩, hkids⟩ := hgood
 obtain ⟨hk8, hmost, hone, hparts, hnames, hnone⟩ := own_facts hown
 obtain ⟨_, _, _, _, _, a', c', e1, rfl, hrb, hrk⟩ := rshows_open hrs
 cases e1
 obtain ⟨N, f, s, c, ov, va, cap, rfl, rfl, hVB, hVK⟩ := vshows_open hvs
 obtain ⟨hN0, hN1, hf64, hsl, hc5⟩ := hVB
 rw [isE_iff] at his
 obtain ⟨_, _, i3, i4, i5, _, _, i8, i9, i10⟩ := his
 obtain ⟨nn, hnn⟩ : ∃ nn, ns.length = nn := ⟨_, rfl⟩
 obtain rfl : c = 0 := i3 (by omega)
 have HE : Hid (flE (.mk k m ns n of) (.mk N f s 0 ov) = accE [N] (fun i => flE (of 0) (ov i)) 0) := hid (by
  rw [flE, if_neg (by omega), if_neg (by omega)]
  unfold accE
  subst hk0
  simp)
 have HLEN : Hid (∀ j, j < 0 -> (accE [N] (fun i => flE (of 0) (ov i)) j).length + (flE (of 0) (ov j)).length <= 200001 /\ szV (ov j) <= 100000) := hid (fun j hj => by
  have h1 := accE_len [N] (fun i => of 0) ov j
  have h2 := flE_len (of 0) (ov j)
  have h3 := sumTo_le (fun i => szV (ov i)) j 0 hj
  rw [szV] at hsz
  unfold sumTo at h1 h3
  simp only [List.length_cons, List.length_nil] at h1
  omega)
 have hlen : ((⟨s.toArray⟩ : ByteArray).size : Int) = (s.length : Int) := by simp [ByteArray.size]
 have HRK := hid hrk
 have HVK := hid hVK
 have HKIDS := hid hkids
 unfold sv
 rw [hnn] at hrb ⊢
 have hnn1 : nn <= 1000 := hrb.2.1
 have hn1000 : n <= 1000 := hrb.2.2
 obtain ⟨kz, hkz⟩ : ∃ kz : Int, (k : Int) = kz := ⟨_, rfl⟩
 rw [hkz]
 have e3 : (kz == 3) = false := by simp; omega
 have e4 : (kz == 4) = false := by simp; omega
 have e5 : (kz == 5) = false := by simp; omega
 have e6 : (kz == 6) = false := by simp; omega
 have e8 : (kz == 8) = false := by simp; omega
 have g1 : decide (kz < 3) = false := by simp; omega
 have g2 : decide (6 < kz) = true := by simp; omega
 obtain ⟨w1, hw1⟩ : ∃ w1, w1 = (w.alloc (.cells #[.int .i64 kz, .int .i64 m, .int .i64 (nn : Nat), .slice a' n c'] 54)).alloc (.cells #[.int .i64 N, .float .f64 f, .string ⟨s.toArray⟩, .slice va 0 cap] 58) := ⟨_, rfl⟩
 have f1 : Fr (fun _ => False) w w1 := by rw [hw1]; exact ((Fr.refl _ _).alloc _).alloc _
 have q1 : w1.heap[w.heap.size]? = some (.cells #[.int .i64 kz, .int .i64 m, .int .i64 (nn : Nat), .slice a' n c'] 54 (0, 0)) := by rw [hw1]; exact heap_alloc_first _ _ _
 have v1 : w1.heap[w.heap.size + 1]? = some (.cells #[.int .i64 N, .float .f64 f, .string ⟨s.toArray⟩, .slice va 0 cap] 58 (0, 0)) := by rw [hw1]; exact heap_alloc_two _ _ _
 have HSZ1 : Hid (w1.heap.size = w.heap.size + 1 + 1) := hid (by rw [hw1]; simp)
 obtain ⟨i0, hi, hz0, hz1, hz2⟩ := info_parts Try.infoI64
 have HI0 := hid (And.intro hi (And.intro hz0 (And.intro hz1 hz2)))
 clear hrs hvs hk0 hk8 hmost hone hparts hnames hnone hkids hrk hVK hrb hown hnn hkz hn12 hsl hsz i3 i4 i5 i8 i9 i10 hi hz0 hz1 hz2
 go_enter Try.func7, Try.ntmps7
 go_upto_region 1 with fail
 rw [<- hw1]
 obtain ⟨vb, hvb⟩ : ∃ vb, w.heap.size + 1 = vb := ⟨_, rfl⟩
 rw [hvb] at v1 HSZ1 ⊢
 have HVB := hid hvb
 obtain ⟨tb, htb⟩ : ∃ tb, w.heap.size = tb := ⟨_, rfl⟩
 rw [htb] at q1 ⊢
 have HTB := hid htb
 obtain ⟨c0, c1, c2, c3⟩ := cell_of_four q1
 obtain ⟨d0, d1, d2, d3⟩ := cell_of_four v1
 have H1 := hid (And.intro f1 (And.intro q1 v1))
 clear hw1 f1 q1 v1 hvb htb
 have q2 : (w1.alloc (.cells #[.int .i64 N] 2)).heap[w1.heap.size]? = some (.cells #[.int .i64 N] 2 (0, 0)) := heap_alloc_new _ _
 have Q2 := hid q2
 have HB1 := hid (show w1.heap.size <= (w1.alloc (.cells #[.int .i64 N] 2)).heap.size by simp)
 clear q2
 go_wp2_with (at_builtin; refine wpList_append_sep rfl (.tmp 39) (.tmp 42) 28 28 rfl w1.heap.size 2 i0 (.int .i64 0) 1 8 Try.underlying28 _ Try.underlying28 (.inr ⟨_, rfl⟩) HI0.out.1 HI0.out.2.1 HI0.out.2.2.1 HI0.out.2.2.2 rfl (by decide) (.slice none 0 0) 0 [] rfl ?own (.slice (some ⟨w1.heap.size, 0, none⟩) 1 1) 1 [.int .i64 N] rfl (fun w => lenOf_slice _ _ _ _) rfl ?fc1 ?fc2 ?one ?b1 ?b2 ?base ?grow)
 case own => exact ⟨rfl, .inl ⟨rfl, rfl⟩⟩
 case fc1 => exact first_one 1 1 rfl Q2.out
 case fc2 => exact first_one 1 1 rfl (w := World.drew _) Q2.out
 case one => intro u hu; simp at hu; subst hu; rfl
 case b1 => unfold maxLen; omega
 case b2 => omega
 case base => exact HB1.out
 case grow =>
 intro v2 w2 hown hg2 hv2
 have f2 : Fr (fun _ => False) w1 w2 := ((Fr.refl (fun _ => False) w1).alloc (.cells #[.int .i64 N] 2)).trans ((Fr.of_grown hg2).mono (fun _ _ e => by simp [Value.ownBlock] at e)) fid2
 have hown2 : IOwn w1.heap.size w2 v2 [N] := hown
 have HO2 := hid (And.intro f2 hown2)
 clear hown hg2 hv2 f2 hown2
 have c0 := cells_row (box_kept H1.out.2.1 HO2.out.1 (fun h => h)) 0 _ rfl
 have d3 := cells_row (box_kept H1.out.2.2 HO2.out.1 (fun h => h)) 3 _ rfl
 go_wp2
 clear c0 c1 c2 c3 d0 d1 d2 d3
 go_loopg [5, 6, 7] 0 (fun G u5 u6 u7 wr => ∃ j : Nat, j <= 0 /\ G = 0 - j /\ u6 = .int .i64 j /\ Hid (IOwn w1.heap.size wr u5 (accE [N] (fun i => flE (of 0) (ov i)) j) /\ Fr (fun _ => False) w1 wr))
 case atStart => exact ⟨0, Nat.zero_le _, rfl, by go_num, hid ⟨by rw [accE_zero]; exact HO2.out.2, HO2.out.1⟩⟩
 case round =>
  obtain ⟨j, hj, rfl, rfl, HI⟩ := hrel
  obtain ⟨qa, qc, e5⟩ := slice_of_own HI.out.1
  subst e5
  have qr := box_kept H1.out.2.1 HI.out.2 (fun h => h)
  have vr := box_kept H1.out.2.2 HI.out.2 (fun h => h)
  have c0 := cells_row qr 0 _ rfl
  have c3 := cells_row qr 3 _ rfl
  have d0 := cells_row vr 0 _ rfl
  have d3 := cells_row vr 3 _ rfl
  have HQR := hid (And.intro qr vr)
  clear qr vr
  obtain rfl : j = 0 := by omega
  go_wp2
  go_ret
  refine ⟨_, rfl, ?_, H1.out.1.trans HI.out.2 fid2⟩
  rw [HE.out]
  exact HI.out.1.le H1.out.1.size

set_option maxRecDepth 100000 in
theorem rflat_k8 (k : Nat) (m : Int) (ns : List Txt) (n : Nat) (of : Nat -> KT) (ih : ∀ i, RFlatAt (of i)) (hk0 : k = 8) : RFlatAt (.mk k m ns n of) := by
 intro R v vv w T hgood hrs0 hvs0 his hsz
 have hrs : RShows (fun k => k < w.heap.size) w (.mk k m ns n of) v := RShows.mono (fun k hk _ => hk) _ _ hrs0
 have hvs : VShows (fun k => k < w.heap.size) w T vv := VShows.mono (fun k hk _ => hk) _ _ hvs0
 clear hrs0 hvs0
 obtain ⟨⟨hn12, hown⟩, hkids⟩ := hgood
 obtain ⟨hk8, hmost, hone, hparts, hnames, hnone⟩ := own_facts hown
 obtain ⟨_, _, _, _, _, a', c', e1, rfl, hrb, hrk⟩ := rshows_open hrs
 cases e1
 obtain ⟨N, f, s, c, ov, va, cap, rfl, rfl, hVB, hVK⟩ := vshows_open hvs
 obtain ⟨hN0, hN1, hf64, hsl, hc5⟩ := hVB
 rw [isE_iff] at his
 obtain ⟨_, _, i3, i4, i5, _, _, i8, i9, i10⟩ := his
 obtain ⟨nn, hnn⟩ : ∃ nn, ns.length = nn := ⟨_, rfl⟩
 have hc1 : c = 1 := i9 hk0
 have hlow : lowE k = 0 := (by unfold lowE; rw [if_neg (by omega)])
 have hhigh : highE k ns.length n = (n : Int) - 1 := (by unfold highE; rw [if_neg (by omega), if_neg (by omega), if_neg (by omega), if_neg (by omega), if_pos hk0])
 rw [hlow] at i4
 rw [hhigh] at i5
 obtain ⟨q, rfl⟩ : ∃ q : Nat, N = q := ⟨N.toNat, by omega⟩
 have HIX : Hid (∀ j, j < c -> q < n /\ isE (of q) (ov j) = true) := hid (fun j hj => ⟨by omega, by have := i10 j hj; rwa [if_neg (by omega), if_pos hk0, Int.toNat_natCast] at this⟩)
 have HE : Hid (flE (.mk k m ns n of) (.mk (q : Int) f s c ov) = accE [(q : Int)] (fun i => flE (of q) (ov i)) c) := hid (by
  rw [flE, if_neg (by omega), if_neg (by omega)]
  unfold accE
  subst hk0
  simp)
 have HLEN : Hid (∀ j, j < c -> (accE [(q : Int)] (fun i => flE (of q) (ov i)) j).length + (flE (of q) (ov j)).length <= 200001 /\ szV (ov j) <= 100000) := hid (fun j hj => by
  have h1 := accE_len [(q : Int)] (fun i => of q) ov j
  have h2 := flE_len (of q) (ov j)
  have h3 := sumTo_le (fun i => szV (ov i)) j c hj
  rw [szV] at hsz
  unfold sumTo at h1 h3
  simp only [List.length_cons, List.length_nil] at h1
  omega)
 have hlen : ((⟨s.toArray⟩ : ByteArray).size : Int) = (s.length : Int) := by simp [ByteArray.size]
 have HRK := hid hrk
 have HVK := hid hVK
 have HKIDS := hid hkids
 unfold sv
 rw [hnn] at hrb ⊢
 have hnn1 : nn <= 1000 := hrb.2.1
 have hn1000 : n <= 1000 := hrb.2.2
 obtain ⟨kz, hkz⟩ : ∃ kz : Int, (k : Int) = kz := ⟨_, rfl⟩
 rw [hkz]
 have e3 : (kz == 3) = false := by simp; omega
 have e4 : (kz == 4) = false := by simp; omega
 have e5 : (kz == 5) = false := by simp; omega
 have e6 : (kz == 6) = false := by simp; omega
 have e8 : (kz == 8) = true := by simp; omega
 have g1 : decide (kz < 3) = false := by simp; omega
 have g2 : decide (6 < kz) = true := by simp; omega
 obtain ⟨w1, hw1⟩ : ∃ w1, w1 = (w.alloc (.cells #[.int .i64 kz, .int .i64 m, .int .i64 (nn : Nat), .slice a' n c'] 54)).alloc (.cells #[.int .i64 (q : Int), .float .f64 f, .string ⟨s.toArray⟩, .slice va c cap] 58) := ⟨_, rfl⟩
 have f1 : Fr (fun _ => False) w w1 := by rw [hw1]; exact ((Fr.refl _ _).alloc _).alloc _
 have q1 : w1.heap[w.heap.size]? = some (.cells #[.int .i64 kz, .int .i64 m, .int .i64 (nn : Nat), .slice a' n c'] 54 (0, 0)) := by rw [hw1]; exact heap_alloc_first _ _ _
 have v1 : w1.heap[w.heap.size + 1]? = some (.cells #[.int .i64 (q : Int), .float .f64 f, .string ⟨s.toArray⟩, .slice va c cap] 58 (0, 0)) := by rw [hw1]; exact heap_alloc_two _ _ _
 have HSZ1 : Hid (w1.heap.size = w.heap.size + 1 + 1) := hid (by rw [hw1]; simp)
 obtain ⟨i0, hi, hz0, hz1, hz2⟩ := info_parts Try.infoI64
 have HI0 := hid (And.intro hi (And.intro hz0 (And.intro hz1 hz2)))
 clear hrs hvs hk0 hk8 hmost hone hparts hnames hnone hkids hrk hVK hrb hown hnn hkz hn12 hsl hsz i3 i4 i5 i8 i9 i10 hi hz0 hz1 hz2 hc1 hlow hhigh
 go_enter Try.func7, Try.ntmps7
 go_upto_region 1 with fail
 rw [<- hw1]
 obtain ⟨vb, hvb⟩ : ∃ vb, w.heap.size + 1 = vb := ⟨_, rfl⟩
 rw [hvb] at v1 HSZ1 ⊢
 have HVB := hid hvb
 obtain ⟨tb, htb⟩ : ∃ tb, w.heap.size = tb := ⟨_, rfl⟩
 rw [htb] at q1 ⊢
 have HTB := hid htb
 obtain ⟨c0, c1, c2, c3⟩ := cell_of_four q1
 obtain ⟨d0, d1, d2, d3⟩ := cell_of_four v1
 have H1 := hid (And.intro f1 (And.intro q1 v1))
 clear hw1 f1 q1 v1 hvb htb
 have q2 : (w1.alloc (.cells #[.int .i64 (q : Int)] 2)).heap[w1.heap.size]? = some (.cells #[.int .i64 (q : Int)] 2 (0, 0)) := heap_alloc_new _ _
 have Q2 := hid q2
 have HB1 := hid (show w1.heap.size <= (w1.alloc (.cells #[.int .i64 (q : Int)] 2)).heap.size by simp)
 clear q2
 go_wp2_with (at_builtin; refine wpList_append_sep rfl (.tmp 39) (.tmp 42) 28 28 rfl w1.heap.size 2 i0 (.int .i64 0) 1 8 Try.underlying28 _ Try.underlying28 (.inr ⟨_, rfl⟩) HI0.out.1 HI0.out.2.1 HI0.out.2.2.1 HI0.out.2.2.2 rfl (by decide) (.slice none 0 0) 0 [] rfl ?own (.slice (some ⟨w1.heap.size, 0, none⟩) 1 1) 1 [.int .i64 (q : Int)] rfl (fun w => lenOf_slice _ _ _ _) rfl ?fc1 ?fc2 ?one ?b1 ?b2 ?base ?grow)
 case own => exact ⟨rfl, .inl ⟨rfl, rfl⟩⟩
 case fc1 => exact first_one 1 1 rfl Q2.out
 case fc2 => exact first_one 1 1 rfl (w := World.drew _) Q2.out
 case one => intro u hu; simp at hu; subst hu; rfl
 case b1 => unfold maxLen; omega
 case b2 => omega
 case base => exact HB1.out
 case grow =>
 intro v2 w2 hown hg2 hv2
 have f2 : Fr (fun _ => False) w1 w2 := ((Fr.refl (fun _ => False) w1).alloc (.cells #[.int .i64 (q : Int)] 2)).trans ((Fr.of_grown hg2).mono (fun _ _ e => by simp [Value.ownBlock] at e)) fid2
 have hown2 : IOwn w1.heap.size w2 v2 [(q : Int)] := hown
 have HO2 := hid (And.intro f2 hown2)
 clear hown hg2 hv2 f2 hown2
 have c0 := cells_row (box_kept H1.out.2.1 HO2.out.1 (fun h => h)) 0 _ rfl
 have d3 := cells_row (box_kept H1.out.2.2 HO2.out.1 (fun h => h)) 3 _ rfl
 go_wp2
 clear c0 c1 c2 c3 d0 d1 d2 d3
 go_loopg [5, 6, 7] c (fun G u5 u6 u7 wr => ∃ j : Nat, j <= c /\ G = c - j /\ u6 = .int .i64 j /\ Hid (IOwn w1.heap.size wr u5 (accE [(q : Int)] (fun i => flE (of q) (ov i)) j) /\ Fr (fun _ => False) w1 wr))
 case atStart => exact ⟨0, Nat.zero_le _, rfl, by go_num, hid ⟨by rw [accE_zero]; exact HO2.out.2, HO2.out.1⟩⟩
 case round =>
  obtain ⟨j, hj, rfl, rfl, HI⟩ := hrel
  obtain ⟨qa, qc, e5⟩ := slice_of_own HI.out.1
  subst e5
  have qr := box_kept H1.out.2.1 HI.out.2 (fun h => h)
  have vr := box_kept H1.out.2.2 HI.out.2 (fun h => h)
  have c0 := cells_row qr 0 _ rfl
  have c3 := cells_row qr 3 _ rfl
  have d0 := cells_row vr 0 _ rfl
  have d3 := cells_row vr 3 _ rfl
  have HQR := hid (And.intro qr vr)
  clear qr vr
  by_cases hlt : j < c
  ·obtain ⟨hxn, hix⟩ := HIX.out j hlt
   have HIXX := hid hix
   rcases HRK.out with hz | ⟨hcap, g, off, hg, rfl, hcell⟩
   ·omega
   rcases HVK.out with hz | ⟨hvcap, gv, ov', hgv, rfl, hvcell⟩
   ·omega
   obtain ⟨x0', x1, x2, x3, y0, y1, y2, y3, hx⟩ := hcell q hxn
   obtain ⟨s0, s1, s2, s3, r0, r1, r2, r3, hs⟩ := hvcell j hlt
   obtain ⟨ak, am, an, aa, ac, acap, ex⟩ := hx.lit
   simp only [Value.agg.injEq, Array.mk.injEq, List.cons.injEq, and_true] at ex
   obtain ⟨rfl, rfl, rfl, rfl⟩ := ex
   obtain ⟨zn, zf, zs, za, zc, zcap, es⟩ := hs.lit
   simp only [Value.agg.injEq, Array.mk.injEq, List.cons.injEq, and_true] at es
   obtain ⟨rfl, rfl, rfl, rfl⟩ := es
   have HY := hid (And.intro hg (And.intro y0 (And.intro y1 (And.intro y2 y3))))
   have HR := hid (And.intro hgv (And.intro r0 (And.intro r1 (And.intro r2 r3))))
   have HX := hid (And.intro hx hs)
   have HLT := hid hlt
   have HLN := hid (HLEN.out j hlt)
   have jc : (j : Int) < (c : Int) := by omega
   have jn : (q : Int) < (n : Int) := by omega
   clear hcell hvcell hx hs y0 y1 y2 y3 r0 r1 r2 r3 hix
   have HXN := hid hxn
   have HSC := hid (accE_succ [(q : Int)] (fun i => flE (of q) (ov i)) j)
   have HOG := hid (fun k (hk : (Value.slice qa (accE [(q : Int)] (fun i => flE (of q) (ov i)) j).length qc).ownBlock = some k) => HI.out.1.ge hk)
   clear hxn
   generalize hacc : accE [(q : Int)] (fun i => flE (of q) (ov i)) j = acc at *
   clear hacc
   go_upto_region 18 with fail
   clear c0 c3 d0 d3
   have HF0 := hid (H1.out.1.trans HI.out.2 fid2)
   have HSZR := hid (show w.heap.size <= w1.heap.size /\ w1.heap.size <= wr.heap.size from ⟨H1.out.1.size, HI.out.2.size⟩)
   have HTV : Hid (tb < w1.heap.size /\ vb < w1.heap.size) := hid ⟨lt_of_block H1.out.2.1, lt_of_block H1.out.2.2⟩
   refine wp_region_chain (by kernel_rfl) [some 60, some 61, some 62, some 63, some 64, some 65, some 66, some 67, some 68, some 69, some 70, some 71, some 72, some 5] rfl (by decide) (by intro d hd; simp at hd ⊢; omega)
    [11, 12, 13] (fun cvs wx => RfS w1.heap.size wr (.slice qa acc.length qc) acc (flE (of q) (ov j)) cvs wx)
    [.free (.slice qa acc.length qc), .free (.pointer (some ⟨tb, 3, none⟩)), .free (.slice (some ⟨g, off, none⟩) n c'), .free (.int .i64 q), .free (.pointer (some ⟨g, off + q * 4, none⟩)), .free (.agg #[.int .i64 ak, .int .i64 am, .int .i64 an, .slice aa ac acap]),
     .free (.pointer (some ⟨vb, 3, none⟩)), .free (.slice (some ⟨gv, ov', none⟩) c cap), .free (.int .i64 j), .free (.pointer (some ⟨gv, ov' + j * 4, none⟩)), .free (.agg #[.int .i64 zn, .float .f64 zf, .string zs, .slice za zc zcap]), .link none, .link none, .link none]
    (by kernel_rfl) (by kernel_rfl) ?h0 ?step ?fin
   case h0 => exact (Fr.refl _ _).drew
   case step =>
    intro vals2
    simp only [frOfU, fillU, zsl]
    repeat' (first | exact AllOps.nil | refine AllOps.cons ?_ ?_)
    all_goals
     intro cvs wx hS he hu hlim K hK
     simp only [Act.put, zsl, zgl] at hK
     simp only [zml, Region.binds, forall_const, vmode_gc, Bool.false_eq_true, false_imp_iff, zgl, OpSort.val, Option.some.injEq, forall_eq', reduceCtorEq, implies_true, true_and, and_true] at he
     have HSX := hid hS
     clear hS
    all_goals first | (clear hlim hu; (try simp only [he] at hK ⊢); go_simp; exact hK) | skip
    ·have h13 : vals2 13 = .slice qa acc.length qc := hu 13 (by simp) (by kernel_rfl)
     clear hlim hu he
     simp only [Nat.reduceAdd, h13] at hK ⊢
     go_simp
     exact hK
    ·have l3 := cells_row (box_kept HQR.out.1 HSX.out.fr (fun h => by have := HOG.out _ h; have := HTV.out.1; omega)) 3 _ rfl
     clear hlim hu
     simp only [he] at hK ⊢
     go_simp
     exact hK
    ·have hgn : ¬ (Value.slice qa acc.length qc).ownBlock = some g := fun h => by have := HOG.out _ h; have := HY.out.1; have := HSZR.out.1; omega
     have e0 := cell_fr HSX.out.fr (R := fun k => k = g) (fun k hk h => by subst hk; exact hgn h) rfl (cell_fr (R := fun k => k < w.heap.size) HF0.out fid2 HY.out.1 HY.out.2.1)
     have e1 := cell_fr HSX.out.fr (R := fun k => k = g) (fun k hk h => by subst hk; exact hgn h) rfl (cell_fr (R := fun k => k < w.heap.size) HF0.out fid2 HY.out.1 HY.out.2.2.1)
     have e2 := cell_fr HSX.out.fr (R := fun k => k = g) (fun k hk h => by subst hk; exact hgn h) rfl (cell_fr (R := fun k => k < w.heap.size) HF0.out fid2 HY.out.1 HY.out.2.2.2.1)
     have e3 := cell_fr HSX.out.fr (R := fun k => k = g) (fun k hk h => by subst hk; exact hgn h) rfl (cell_fr (R := fun k => k < w.heap.size) HF0.out fid2 HY.out.1 HY.out.2.2.2.2)
     clear hlim hu hgn
     simp only [he] at hK ⊢
     go_simp
     exact hK
    ·have l3 := cells_row (box_kept HQR.out.2 HSX.out.fr (fun h => by have := HOG.out _ h; have := HTV.out.2; omega)) 3 _ rfl
     clear hlim hu
     simp only [he] at hK ⊢
     go_simp
     exact hK
    ·have hgn : ¬ (Value.slice qa acc.length qc).ownBlock = some gv := fun h => by have := HOG.out _ h; have := HR.out.1; have := HSZR.out.1; omega
     have e0 := cell_fr HSX.out.fr (R := fun k => k = gv) (fun k hk h => by subst hk; exact hgn h) rfl (cell_fr (R := fun k => k < w.heap.size) HF0.out fid2 HR.out.1 HR.out.2.1)
     have e1 := cell_fr HSX.out.fr (R := fun k => k = gv) (fun k hk h => by subst hk; exact hgn h) rfl (cell_fr (R := fun k => k < w.heap.size) HF0.out fid2 HR.out.1 HR.out.2.2.1)
     have e2 := cell_fr HSX.out.fr (R := fun k => k = gv) (fun k hk h => by subst hk; exact hgn h) rfl (cell_fr (R := fun k => k < w.heap.size) HF0.out fid2 HR.out.1 HR.out.2.2.2.1)
     have e3 := cell_fr HSX.out.fr (R := fun k => k = gv) (fun k hk h => by subst hk; exact hgn h) rfl (cell_fr (R := fun k => k < w.heap.size) HF0.out fid2 HR.out.1 HR.out.2.2.2.2)
     clear hlim hu hgn
     simp only [he] at hK ⊢
     go_simp
     exact hK
    ·obtain rfl := hlim (0 : Nat) rfl
     have h1 : Fr (fun _ => False) wr wx := HSX.out
     have H2 := hid (And.intro h1 (HF0.out.trans h1 fid2))
     clear hlim hu HSX h1
     simp only [he] at hK ⊢
     go_simp
     go_at_call 7
     refine (ih q _ _ _ wx (ov j) (HKIDS.out q HXN.out) (RShows.fr H2.out.2 fid2 _ _ HX.out.1) (VShows.fr H2.out.2 fid2 _ _ HX.out.2) HIXX.out HLN.out.2).mono ?_
     rintro er wa ⟨nv, rfl, ho, fa⟩
     exact hK _ _ (fun _ h => by cases h) ⟨H2.out.1.trans fa fid2, ho.le H2.out.1.size⟩
    ·obtain rfl := hlim (1 : Nat) rfl
     have h1 : Fr (fun _ => False) wr wx /\ IOwn wr.heap.size wx (vals2 11) (flE (of q) (ov j)) := HSX.out
     clear hlim hu HSX
     obtain ⟨na, nc, e11⟩ := slice_of_own h1.2
     have hli := HLN.out.1
     rw [if_pos (by rfl)]
     refine opWp_append (.tmp 60) (.tmp 71) 28 28 rfl w1.heap.size 2 i0 (.int .i64 0) 1 8 Try.underlying28 _ Try.underlying28 (.inr ⟨_, rfl⟩) HI0.out.1 HI0.out.2.1 HI0.out.2.2.1 HI0.out.2.2.2 rfl (by decide) (.slice qa acc.length qc) acc.length (acc.map (Value.int .i64)) he (ownsRow_fr HI.out.1 h1.1 fid2) (vals2 11) (flE (of q) (ov j)).length ((flE (of q) (ov j)).map (Value.int .i64)) rfl (fun w => by rw [e11]; exact lenOf_slice _ _ _ _) (by simp) h1.2.first (IOwn.first (w := World.drew _) (ownsRow_fr h1.2 (Fr.refl (fun _ => False) _).drew fid2)) (by intro u hu; obtain ⟨x, _, rfl⟩ := List.mem_map.1 hu; rfl) (by unfold maxLen; omega) (by omega) (by have := HSZR.out.2; have := h1.1.size; omega) ?_
     intro v' w8 hrow hgr hv
     have hrow2 : IOwn w1.heap.size w8 v' (acc ++ flE (of q) (ov j)) := by
      unfold IOwn
      rw [List.length_append, List.map_append]
      exact hrow
     exact hK _ _ (fun _ h => by cases h) ⟨(h1.1.mono (fun _ _ h => h.elim)).trans ((Fr.of_grown hgr).mono (fun _ _ e => e.symm)) fid2, hrow2⟩
    ·obtain rfl := hlim (2 : Nat) rfl
     have h1 : Fr (fun k => (Value.slice qa acc.length qc).ownBlock = some k) wr wx /\ IOwn w1.heap.size wx (vals2 12) (acc ++ flE (of q) (ov j)) := HSX.out
     have H2 := hid h1
     clear hlim hu HSX h1
     (try simp only [he] at hK ⊢)
     go_simp
     exact hK _ _ (fun _ h => by cases h) H2.out
   case fin =>
    intro vals2 w7 hS hV
    clear hV
    have h7 : Fr (fun k => (Value.slice qa acc.length qc).ownBlock = some k) wr w7 /\ IOwn w1.heap.size w7 (vals2 13) (acc ++ flE (of q) (ov j)) := hS
    have H7 := hid (And.intro (rfl_new HI.out.2 (fun k hk => HOG.out k hk) h7.1) h7.2)
    clear hS h7
    simp only [frOfU, fillU, zsl]
    go_wp2
    go_roundg (c - (j + 1))
    case measure => have := HLT.out; omega
    case rel => exact ⟨j + 1, HLT.out, rfl, by go_num, hid ⟨by rw [HSC.out]; exact H7.out.2, H7.out.1⟩⟩
  ·obtain rfl : j = c := by omega
   go_wp2
   go_ret
   refine ⟨_, rfl, ?_, H1.out.1.trans HI.out.2 fid2⟩
   rw [HE.out]
   exact HI.out.1.le H1.out.1.size

theorem rflat_any (t : KT) : RFlatAt t := by
 induction t with
 | nil => exact fun _ _ _ _ _ h => h.elim
 | mk k m ns n of ih =>
  intro R v vv w T hgood
  have hk8 : k <= 8 := by
   have := (own_facts hgood.1.2).1
   exact this
  rcases (by omega : k = 0 \/ k = 1 \/ k = 2 \/ k = 3 \/ k = 4 \/ k = 5 \/ k = 6 \/ k = 7 \/ k = 8) with h | h | h | h | h | h | h | h | h
  ·exact rflat_k0 k m ns n of ih h R v vv w T hgood
  ·exact rflat_k1 k m ns n of ih h R v vv w T hgood
  ·exact rflat_k2 k m ns n of ih h R v vv w T hgood
  ·exact rflat_k3 k m ns n of ih h R v vv w T hgood
  ·exact rflat_k4 k m ns n of ih h R v vv w T hgood
  ·exact rflat_k5 k m ns n of ih h R v vv w T hgood
  ·exact rflat_k6 k m ns n of ih h R v vv w T hgood
  ·exact rflat_k7 k m ns n of ih h R v vv w T hgood
  ·exact rflat_k8 k m ns n of ih h R v vv w T hgood
end
section
attribute [local go_sem] run_store_float

def MBox (w : World) (b : Nat) (nv : Value) (tk bg : Nat) : Prop := w.heap[b]? = some (.cells #[nv, .int .i64 (tk : Nat), .int .i64 (bg : Nat)] 73 (0, 0))

theorem MBox.drewN {w : World} {b : Nat} {nv : Value} {tk bg : Nat} (h : MBox w b nv tk bg) (n : Nat) : MBox (w.drewN n) b nv tk bg := h

theorem MBox.fr {S : Nat -> Prop} {w w' : World} {b : Nat} {nv : Value} {tk bg : Nat} (h : MBox w b nv tk bg) (f : Fr S w w') (hS : ¬ S b) : MBox w' b nv tk bg := box_kept h f hS

set_option maxRecDepth 100000 in
theorem rnext_any (R : Nat -> Prop) (l : List Int) (nv : Value) (b tk bg : Nat) (m : Int) (w : World) (hb : MBox w b nv tk bg) (hl : Nums R w l nv) (htk : tk <= 100000) (hm0 : 0 < m) (hm1 : m <= 4294967296) :
  Calls Try.prog 29 #[.pointer (some ⟨b, 0, none⟩), .int .i64 m] w fun e w' => e = .returned (.int .i64 (numE l tk % m)) /\ Fr (fun k => k = b) w w' /\ MBox w' b nv (nextE l tk) bg := by
 have hin := numE_in hl tk
 obtain ⟨n, hn⟩ : ∃ n, n = l.length := ⟨_, rfl⟩
 have HL := hid hl
 have HB := hid hb
 obtain ⟨h1, h2, h3⟩ := hl
 unfold MBox at hb
 have r1 := cells_row hb 1 _ rfl
 have r0 := cells_row hb 0 _ rfl
 have z1 : w.frozen? ⟨b, 1, none⟩ = false := by simp [World.frozen?, hb]
 clear hb
 by_cases h0 : n = 0
 ·obtain ⟨na, nc, rfl⟩ : ∃ na nc, nv = .slice na n nc := by
   obtain ⟨a, c, e⟩ := HL.out.shape
   exact ⟨a, c, by rw [e, hn]⟩
  have HN := hid hn
  clear hn
  subst h0
  have e : l = [] := List.eq_nil_of_length_eq_zero HN.out.symm
  clear h1 h2 h3 hin
  go_enter Try.func29, Try.ntmps29
  go_wp2
  go_ret
  subst e
  exact ⟨by simp [numE], Fr.refl _ _, HB.out⟩
 ·rcases h3 with ⟨rfl, _⟩ | ⟨g, off, cap, hg, rfl, hle, hc⟩
  ·exact absurd hn h0
  rw [<- hn] at r0 h1 hle HB HL ⊢
  have hne : l ≠ [] := by intro e; rw [e] at hn; exact h0 hn
  obtain ⟨q, hq⟩ : ∃ q, tk % n = q := ⟨_, rfl⟩
  have hqn : q < n := by rw [<- hq]; exact Nat.mod_lt _ (by omega)
  have e1 : (tk : Int).tmod (n : Int) = (q : Int) := by rw [<- hq]; exact (Int.ofNat_tmod tk n).symm
  have e2 : (tk : Int) % (n : Int) = (q : Int) := by rw [<- hq]; omega
  have x0 : l[q]? = some (numE l tk) := by
   unfold numE
   rw [if_neg hne, <- hn, hq, List.getD, List.getElem?_eq_getElem (by omega)]
   rfl
  have y0 := hc q _ x0
  have nx : nextE l tk = tk + 1 := by unfold nextE; rw [if_neg hne]
  have NX := hid nx
  have hn0 : ¬ (n : Int) = 0 := by omega
  have hn1 : ((n : Int) == 0) = false := by simpa using h0
  have q0 : 0 <= (q : Int) := by omega
  have q1 : (q : Int) < (n : Int) := by omega
  have HN := hid (And.intro hn hq)
  obtain ⟨x, hx⟩ : ∃ x, numE l tk = x := ⟨_, rfl⟩
  rw [hx] at y0 hin ⊢
  clear hn hq hx nx x0 hc hne h2
  have hb1 : b < w.heap.size := lt_of_block HB.out
  obtain ⟨hi1, hi2⟩ := hin
  obtain ⟨y, hy⟩ : ∃ y, x.tmod m = y := ⟨_, rfl⟩
  have hy0 : -m < y /\ y < m := by
   rw [<- hy]
   exact ⟨Int.lt_tmod_of_pos x hm0, Int.tmod_lt_of_pos x hm0⟩
  have hye : (if y < 0 then y + m else y) = x % m := by
   have e := Int.tmod_eq_emod (a := x) (b := m)
   have p0 := Int.emod_nonneg x (show m ≠ 0 by omega)
   have p1 := Int.emod_lt_of_pos x hm0
   have habs : ((m.natAbs : Nat) : Int) = m := by omega
   rw [hy] at e
   by_cases hc : 0 <= x \/ m ∣ x
   ·rw [if_pos hc] at e
    split <;> omega
   ·rw [if_neg hc] at e
    split <;> omega
  obtain ⟨y0', y1'⟩ := hy0
  have HE := hid hye
  have hm00 : ¬ m = 0 := by omega
  have hm01 : (m == 0) = false := by simpa using hm00
  clear hye
  by_cases hneg : y < 0
  ·have HN2 := hid hneg
   go_enter Try.func29, Try.ntmps29
   go_wp2
   go_quiet (fail)
   go_wp2
   go_ret
   refine ⟨?_, ((Fr.refl _ _).drewN _).set1 _ _, ?_⟩
   ·have := HE.out
    rw [if_pos (by have := HN2.out; omega)] at this
    rw [<- this]
    try rfl
   ·unfold MBox
    rw [setCell_row 1 _ (HB.out.drewN _), NX.out]
    simp
    try exact HN.out.1
  ·have HN2 := hid hneg
   go_enter Try.func29, Try.ntmps29
   go_wp2
   go_quiet (fail)
   go_wp2
   go_ret
   refine ⟨?_, ((Fr.refl _ _).drewN _).set1 _ _, ?_⟩
   ·have := HE.out
    rw [if_neg (by have := HN2.out; omega)] at this
    rw [<- this]
    try rfl
   ·unfold MBox
    rw [setCell_row 1 _ (HB.out.drewN _), NX.out]
    simp
    try exact HN.out.1

def RBuiltAs (l : List Int) (t : KT) (w : World) (b : Nat) (nv : Value) (tk bg : Nat) (e : Ending) (w' : World) : Prop :=
 ∃ v', e = .returned v' /\ VShows (fun k => w.heap.size <= k) w' (buildE l t (tk, bg)).1 v' /\ Fr (fun k => k = b) w w' /\ MBox w' b nv (buildE l t (tk, bg)).2.1 (buildE l t (tk, bg)).2.2

def RBuildAt (l : List Int) (t : KT) : Prop := ∀ (R : Nat -> Prop) (v nv : Value) (w : World) (b tk bg : Nat), goodE t -> tk + costE t <= 100000 -> bg + costE t <= 100000 -> RShows R w t v -> ¬ R b -> Nums R w l nv -> MBox w b nv tk bg ->
 Calls Try.prog 15 #[.pointer (some ⟨b, 0, none⟩), v] w (RBuiltAs l t w b nv tk bg)

theorem rbuild_box (kz m : Int) (nn : Nat) (a' : Option Addr) (n c' : Nat) {w w1 : World} {b : Nat} {nv : Value} {tk bg : Nat} (h : MBox w b nv tk bg)
  (hw1 : w1 = (((w.setCell ⟨b, 2, none⟩ (.int .i64 ((bg : Int) + 1))).alloc (.cells #[.int .i64 kz, .int .i64 m, .int .i64 (nn : Nat), .slice a' n c'] 54)).alloc (.cells #[.int .i64 0, .float .f64 0, .string ⟨#[]⟩, .slice none 0 0] 58)).alloc (.cells #[.int .i64 0, .float .f64 0, .string ⟨#[]⟩, .slice none 0 0] 58)) :
  w1.heap[w.heap.size]? = some (.cells #[.int .i64 kz, .int .i64 m, .int .i64 (nn : Nat), .slice a' n c'] 54 (0, 0)) /\ w1.heap[w.heap.size + 1]? = some (.cells #[.int .i64 0, .float .f64 0, .string ⟨#[]⟩, .slice none 0 0] 58 (0, 0)) /\
  w1.heap[w.heap.size + 2]? = some (.cells #[.int .i64 0, .float .f64 0, .string ⟨#[]⟩, .slice none 0 0] 58 (0, 0)) /\ MBox w1 b nv tk (bg + 1) /\ Fr (fun k => k = b) w w1 := by
 have hbl : b < w.heap.size := lt_of_block h
 have sz : (w.setCell ⟨b, 2, none⟩ (.int .i64 ((bg : Int) + 1))).heap.size = w.heap.size := by simp [World.setCell]
 obtain ⟨w0, hw0⟩ : ∃ w0, w0 = w.setCell ⟨b, 2, none⟩ (.int .i64 ((bg : Int) + 1)) := ⟨_, rfl⟩
 have f0 : Fr (fun k => k = b) w w0 := by rw [hw0]; exact (Fr.refl _ _).set1 _ _
 have b0 : MBox w0 b nv tk (bg + 1) := by unfold MBox; rw [hw0, setCell_row 2 _ h]; simp
 rw [<- hw0] at hw1 sz
 have fa : ∀ (w : World) (o : Obj), Fr (fun _ => False) w (w.alloc o) := fun w o => (Fr.refl _ _).alloc _
 rw [hw1]
 refine ⟨?_, ?_, ?_, ?_, ?_⟩
 ·rw [<- sz]; exact box_kept (box_kept (heap_alloc_new _ _) (fa _ _) (fun h => h)) (fa _ _) (fun h => h)
 ·have h1 := heap_alloc_new (w0.alloc (.cells #[.int .i64 kz, .int .i64 m, .int .i64 (nn : Nat), .slice a' n c'] 54)) (.cells #[.int .i64 0, .float .f64 0, .string ⟨#[]⟩, .slice none 0 0] 58)
  rw [show (w0.alloc (.cells #[.int .i64 kz, .int .i64 m, .int .i64 (nn : Nat), .slice a' n c'] 54)).heap.size = w.heap.size + 1 by simp [sz]] at h1
  exact box_kept h1 (fa _ _) (fun h => h)
 ·have h1 := heap_alloc_new ((w0.alloc (.cells #[.int .i64 kz, .int .i64 m, .int .i64 (nn : Nat), .slice a' n c'] 54)).alloc (.cells #[.int .i64 0, .float .f64 0, .string ⟨#[]⟩, .slice none 0 0] 58)) (.cells #[.int .i64 0, .float .f64 0, .string ⟨#[]⟩, .slice none 0 0] 58)
  rw [show ((w0.alloc (.cells #[.int .i64 kz, .int .i64 m, .int .i64 (nn : Nat), .slice a' n c'] 54)).alloc (.cells #[.int .i64 0, .float .f64 0, .string ⟨#[]⟩, .slice none 0 0] 58)).heap.size = w.heap.size + 2 by simp [sz]] at h1
  exact h1
 ·exact ((b0.fr (fa _ _) (fun h => h)).fr (fa _ _) (fun h => h)).fr (fa _ _) (fun h => h)
 ·exact ((f0.alloc _).alloc _).alloc _

theorem rbuild_done {l : List Int} {t : KT} {w w2 : World} {b rb tk bg tk2 bg2 : Nat} {nv : Value} {x0 x1 x2 x3 : Value} {n : Int} {f : Nat} {s : Txt} {c : Nat} {of : Nat -> VT} {a : Option Addr} {cap : Nat}
  (p : w2.heap[rb]? = some (.cells #[x0, x1, x2, x3] 58 (0, 0))) (f2 : Fr (fun k => k = b) w w2) (b2 : MBox w2 b nv tk2 bg2) (hrb : rb ≠ b) (hrb0 : w.heap.size <= rb)
  (hE : buildE l t (tk, bg) = (.mk n f s c of, tk2, bg2)) (hB : VB n f s c)
  (hk : VKids (fun k => w.heap.size <= k /\ k ≠ rb) w2 of a c cap) :
  RBuiltAs l t w b nv tk bg (.returned (.agg #[.int .i64 n, .float .f64 f, .string ⟨s.toArray⟩, .slice a c cap])) ((((w2.setCell ⟨rb, 0, none⟩ (.int .i64 n)).setCell ⟨rb, 1, none⟩ (.float .f64 f)).setCell ⟨rb, 2, none⟩ (.string ⟨s.toArray⟩)).setCell ⟨rb, 3, none⟩ (.slice a c cap)) := by
 have fs : Fr (fun k => k = rb) w2 ((((w2.setCell ⟨rb, 0, none⟩ (.int .i64 n)).setCell ⟨rb, 1, none⟩ (.float .f64 f)).setCell ⟨rb, 2, none⟩ (.string ⟨s.toArray⟩)).setCell ⟨rb, 3, none⟩ (.slice a c cap)) := fr_four _ _ _ _ (Fr.refl _ _) (fun _ => rfl)
 refine ⟨_, rfl, ?_, f2.trans fs (fun i hi e => by omega), ?_⟩
 ·rw [hE]
  have hk2 := hk.fr fs (fun k hk e => hk.2 e)
  refine VShows.mono (fun k _ h => h.1) _ _ (vshows_mk hB hk2)
 ·rw [hE]
  unfold MBox
  rw [other_four _ _ _ _ _ (fun e => hrb e.symm)]
  exact b2

set_option maxRecDepth 100000 in
theorem rbuild_k0 (l : List Int) (k : Nat) (m : Int) (ns : List Txt) (n : Nat) (of : Nat -> KT) (hk0 : k = 0) : RBuildAt l (.mk k m ns n of) := by
 intro R v nv w b tk bg hgood htk hbg hsh hRb hnum hbox
 obtain ⟨⟨hn12, hown⟩, hkids⟩ := hgood
 obtain ⟨hk8, hmost, hone, hparts, hnames, hnone⟩ := own_facts hown
 have hcost : 1 <= costE (.mk k m ns n of) := by unfold costE; omega
 have htk' : tk <= 100000 := by omega
 have hbg' : bg + 1 <= 100000 := by omega
 obtain ⟨_, _, _, _, _, a', c', e1, rfl, hrb, hrk⟩ := rshows_open hsh
 cases e1
 obtain ⟨nn, hnn⟩ : ∃ nn, ns.length = nn := ⟨_, rfl⟩
 have HRK := hid hrk
 have HRB := hid (show ∀ i, R i -> ¬ i = b from fun i hi e => hRb (by rw [<- e]; exact hi))
 have HN := hid hnum
 have HBX := hid hbox
 have hbl : b < w.heap.size := lt_of_block hbox
 have HBL := hid hbl
 obtain ⟨na, nc, rfl⟩ := hnum.shape
 unfold MBox at hbox
 have r0 := cells_row hbox 2 _ rfl
 have z0 : w.frozen? ⟨b, 2, none⟩ = false := by simp [World.frozen?, hbox]
 have n1 : b ≠ w.heap.size := by omega
 have n2 : w.heap.size ≠ b := by omega
 have n3 : b ≠ w.heap.size + 1 := by omega
 have n4 : w.heap.size + 1 ≠ b := by omega
 have HK := hid (And.intro hk0 (And.intro hmost (And.intro hone (And.intro hparts (And.intro hnames (And.intro hnone hnn))))))
 have HKIDS := hid hkids
 have HCST := hid (And.intro htk hbg)
 
 rw [hnn] at hrb ⊢
 obtain ⟨kz, hkz⟩ : ∃ kz : Int, (k : Int) = kz := ⟨_, rfl⟩
 rw [hkz]
 have e0 : (kz == 0) = true := by simp; omega
 have e1 : (kz == 1) = false := by simp; omega
 have e2 : (kz == 2) = false := by simp; omega
 have e3 : (kz == 3) = false := by simp; omega
 have e4 : (kz == 4) = false := by simp; omega
 have e5 : (kz == 5) = false := by simp; omega
 have e6 : (kz == 6) = false := by simp; omega
 have e7 : (kz == 7) = false := by simp; omega
 have e8 : (kz == 8) = false := by simp; omega
 clear hsh hrk hRb hnum hbox hk0 hk8 hmost hone hparts hnames hnone hkids htk hbg hkz hown hcost hrb hnn
 obtain ⟨w1, hw1⟩ : ∃ w1, w1 = (((w.setCell ⟨b, 2, none⟩ (.int .i64 ((bg : Int) + 1))).alloc (.cells #[.int .i64 kz, .int .i64 m, .int .i64 (nn : Nat), .slice a' n c'] 54)).alloc (.cells #[.int .i64 0, .float .f64 0, .string ⟨#[]⟩, .slice none 0 0] 58)).alloc (.cells #[.int .i64 0, .float .f64 0, .string ⟨#[]⟩, .slice none 0 0] 58) := ⟨_, rfl⟩
 obtain ⟨q1, p1, v1, b1, f1⟩ := rbuild_box kz m nn a' n c' HBX.out hw1
 go_enter Try.func15, Try.ntmps15
 go_upto_region 3 with fail
 rw [<- hw1]
 obtain ⟨tb, htb⟩ : ∃ tb, w.heap.size = tb := ⟨_, rfl⟩
 rw [htb] at q1 p1 v1 hbl n1 n2 n3 n4 ⊢
 have HTB := hid htb
 clear hw1 htb r0 z0 n1 n2 n3 n4 hbl
 try simp only [Nat.add_assoc, Nat.reduceAdd]
 obtain ⟨rb, hrb⟩ : ∃ rb, tb + 1 = rb := ⟨_, rfl⟩
 obtain ⟨pb, hpb⟩ : ∃ pb, tb + 2 = pb := ⟨_, rfl⟩
 rw [hrb] at p1 ⊢
 rw [hpb] at v1 ⊢
 have HORD := hid (show b < tb /\ tb < rb /\ rb < pb from ⟨by have := HBL.out; have := HTB.out; omega, by omega, by omega⟩)
 have m1 : tb ≠ pb := by omega
 have m2 : rb ≠ pb := by omega
 have m3 : pb ≠ rb := by omega
 have m4 : tb ≠ rb := by omega
 clear hrb hpb
 have H1 := hid (And.intro q1 (And.intro p1 (And.intro v1 (And.intro b1 f1))))
 have c0 := cells_row q1 0 _ rfl
 have c1 := cells_row q1 1 _ rfl
 have c2 := cells_row q1 2 _ rfl
 have c3 := cells_row q1 3 _ rfl
 clear q1 p1 v1 b1 f1
 have hnext := rnext_any R l _ b tk (bg + 1) (2 : Int) w1 H1.out.2.2.2.1 (HN.out.fr H1.out.2.2.2.2 HRB.out) htk' (by omega) (by omega)
 obtain ⟨x, hx⟩ : ∃ x, numE l tk % (2 : Int) = x := ⟨_, rfl⟩
 have hx0 : 0 <= x := by rw [<- hx]; exact Int.emod_nonneg _ (by omega)
 have hx1 : x < (2 : Int) := by rw [<- hx]; exact Int.emod_lt_of_pos _ (by omega)
 rw [hx] at hnext
 have HX := hid hx
 clear hx
 go_wp2_with fail
 refine hnext.mono ?_
 rintro e w2 ⟨rfl, f2, b2⟩
 clear hnext c0 c1 c2 c3
 have q2 := box_kept H1.out.1 f2 (fun e => by have := HORD.out; omega)
 have p2 := box_kept H1.out.2.1 f2 (fun e => by have := HORD.out; omega)
 have v2 := box_kept H1.out.2.2.1 f2 (fun e => by have := HORD.out; omega)
 have H2 := hid (And.intro p2 (And.intro v2 (And.intro (H1.out.2.2.2.2.trans f2 fid2) b2)))
 have c0 := cells_row q2 0 _ rfl
 have c1 := cells_row q2 1 _ rfl
 have c2 := cells_row q2 2 _ rfl
 have c3 := cells_row q2 3 _ rfl
 have t0 := cells_row v2 0 _ rfl
 have u0 : w2.frozen? ⟨pb, 0, none⟩ = false := by simp [World.frozen?, v2]
 have s0 := cells_row p2 0 _ rfl
 have y0 : w2.frozen? ⟨rb, 0, none⟩ = false := by simp [World.frozen?, p2]
 have t1 := cells_row v2 1 _ rfl
 have u1 : w2.frozen? ⟨pb, 1, none⟩ = false := by simp [World.frozen?, v2]
 have s1 := cells_row p2 1 _ rfl
 have y1 : w2.frozen? ⟨rb, 1, none⟩ = false := by simp [World.frozen?, p2]
 have t2 := cells_row v2 2 _ rfl
 have u2 : w2.frozen? ⟨pb, 2, none⟩ = false := by simp [World.frozen?, v2]
 have s2 := cells_row p2 2 _ rfl
 have y2 : w2.frozen? ⟨rb, 2, none⟩ = false := by simp [World.frozen?, p2]
 have t3 := cells_row v2 3 _ rfl
 have u3 : w2.frozen? ⟨pb, 3, none⟩ = false := by simp [World.frozen?, v2]
 have s3 := cells_row p2 3 _ rfl
 have y3 : w2.frozen? ⟨rb, 3, none⟩ = false := by simp [World.frozen?, p2]
 clear f2 b2 q2 p2 v2
 go_wp2
 have f3 : Fr (fun k => k = pb) w2 (w2.setCell ⟨pb, 0, none⟩ (.int .i64 x)) := (Fr.refl _ _).set1 _ _
 refine bodyPost_ret (results_cell_row rfl _ _ rb 58 _ _ _ rfl (store_four (box_kept H2.out.1 f3 (fun e => by have := HORD.out; omega))) Try.underlying58 rfl (by kernel_rfl)) rfl ?_
 refine rbuild_done (box_kept H2.out.1 f3 (fun e => by have := HORD.out; omega)) (rfl_new H2.out.2.2.1 (fun k hk => by have := HORD.out; have := HTB.out; omega) f3) (H2.out.2.2.2.fr f3 (fun e => by have := HORD.out; omega)) (by have := HORD.out; omega) (by have := HORD.out; have := HTB.out; omega) (by unfold buildE; have hk := HK.out.1; subst hk; simp only [vnum]; rw [<- HX.out]; rfl) (by unfold VB maxLen; simp; first | omega | skip) (.inl rfl)

set_option maxRecDepth 100000 in
theorem rbuild_k1 (l : List Int) (k : Nat) (m : Int) (ns : List Txt) (n : Nat) (of : Nat -> KT) (hk0 : k = 1) : RBuildAt l (.mk k m ns n of) := by
 intro R v nv w b tk bg hgood htk hbg hsh hRb hnum hbox
 obtain ⟨⟨hn12, hown⟩, hkids⟩ := hgood
 obtain ⟨hk8, hmost, hone, hparts, hnames, hnone⟩ := own_facts hown
 have hcost : 1 <= costE (.mk k m ns n of) := by unfold costE; omega
 have htk' : tk <= 100000 := by omega
 have hbg' : bg + 1 <= 100000 := by omega
 obtain ⟨_, _, _, _, _, a', c', e1, rfl, hrb, hrk⟩ := rshows_open hsh
 cases e1
 obtain ⟨nn, hnn⟩ : ∃ nn, ns.length = nn := ⟨_, rfl⟩
 have HRK := hid hrk
 have HRB := hid (show ∀ i, R i -> ¬ i = b from fun i hi e => hRb (by rw [<- e]; exact hi))
 have HN := hid hnum
 have HBX := hid hbox
 have hbl : b < w.heap.size := lt_of_block hbox
 have HBL := hid hbl
 obtain ⟨na, nc, rfl⟩ := hnum.shape
 unfold MBox at hbox
 have r0 := cells_row hbox 2 _ rfl
 have z0 : w.frozen? ⟨b, 2, none⟩ = false := by simp [World.frozen?, hbox]
 have n1 : b ≠ w.heap.size := by omega
 have n2 : w.heap.size ≠ b := by omega
 have n3 : b ≠ w.heap.size + 1 := by omega
 have n4 : w.heap.size + 1 ≠ b := by omega
 have HK := hid (And.intro hk0 (And.intro hmost (And.intro hone (And.intro hparts (And.intro hnames (And.intro hnone hnn))))))
 have HKIDS := hid hkids
 have HCST := hid (And.intro htk hbg)
 
 rw [hnn] at hrb ⊢
 obtain ⟨kz, hkz⟩ : ∃ kz : Int, (k : Int) = kz := ⟨_, rfl⟩
 rw [hkz]
 have e0 : (kz == 0) = false := by simp; omega
 have e1 : (kz == 1) = true := by simp; omega
 have e2 : (kz == 2) = false := by simp; omega
 have e3 : (kz == 3) = false := by simp; omega
 have e4 : (kz == 4) = false := by simp; omega
 have e5 : (kz == 5) = false := by simp; omega
 have e6 : (kz == 6) = false := by simp; omega
 have e7 : (kz == 7) = false := by simp; omega
 have e8 : (kz == 8) = false := by simp; omega
 clear hsh hrk hRb hnum hbox hk0 hk8 hmost hone hparts hnames hnone hkids htk hbg hkz hown hcost hrb hnn
 obtain ⟨w1, hw1⟩ : ∃ w1, w1 = (((w.setCell ⟨b, 2, none⟩ (.int .i64 ((bg : Int) + 1))).alloc (.cells #[.int .i64 kz, .int .i64 m, .int .i64 (nn : Nat), .slice a' n c'] 54)).alloc (.cells #[.int .i64 0, .float .f64 0, .string ⟨#[]⟩, .slice none 0 0] 58)).alloc (.cells #[.int .i64 0, .float .f64 0, .string ⟨#[]⟩, .slice none 0 0] 58) := ⟨_, rfl⟩
 obtain ⟨q1, p1, v1, b1, f1⟩ := rbuild_box kz m nn a' n c' HBX.out hw1
 go_enter Try.func15, Try.ntmps15
 go_upto_region 3 with fail
 rw [<- hw1]
 obtain ⟨tb, htb⟩ : ∃ tb, w.heap.size = tb := ⟨_, rfl⟩
 rw [htb] at q1 p1 v1 hbl n1 n2 n3 n4 ⊢
 have HTB := hid htb
 clear hw1 htb r0 z0 n1 n2 n3 n4 hbl
 try simp only [Nat.add_assoc, Nat.reduceAdd]
 obtain ⟨rb, hrb⟩ : ∃ rb, tb + 1 = rb := ⟨_, rfl⟩
 obtain ⟨pb, hpb⟩ : ∃ pb, tb + 2 = pb := ⟨_, rfl⟩
 rw [hrb] at p1 ⊢
 rw [hpb] at v1 ⊢
 have HORD := hid (show b < tb /\ tb < rb /\ rb < pb from ⟨by have := HBL.out; have := HTB.out; omega, by omega, by omega⟩)
 have m1 : tb ≠ pb := by omega
 have m2 : rb ≠ pb := by omega
 have m3 : pb ≠ rb := by omega
 have m4 : tb ≠ rb := by omega
 clear hrb hpb
 have H1 := hid (And.intro q1 (And.intro p1 (And.intro v1 (And.intro b1 f1))))
 have c0 := cells_row q1 0 _ rfl
 have c1 := cells_row q1 1 _ rfl
 have c2 := cells_row q1 2 _ rfl
 have c3 := cells_row q1 3 _ rfl
 clear q1 p1 v1 b1 f1
 have hnext := rnext_any R l _ b tk (bg + 1) (65536 : Int) w1 H1.out.2.2.2.1 (HN.out.fr H1.out.2.2.2.2 HRB.out) htk' (by omega) (by omega)
 obtain ⟨x, hx⟩ : ∃ x, numE l tk % (65536 : Int) = x := ⟨_, rfl⟩
 have hx0 : 0 <= x := by rw [<- hx]; exact Int.emod_nonneg _ (by omega)
 have hx1 : x < (65536 : Int) := by rw [<- hx]; exact Int.emod_lt_of_pos _ (by omega)
 rw [hx] at hnext
 have HX := hid hx
 clear hx
 go_wp2_with fail
 refine hnext.mono ?_
 rintro e w2 ⟨rfl, f2, b2⟩
 clear hnext c0 c1 c2 c3
 have q2 := box_kept H1.out.1 f2 (fun e => by have := HORD.out; omega)
 have p2 := box_kept H1.out.2.1 f2 (fun e => by have := HORD.out; omega)
 have v2 := box_kept H1.out.2.2.1 f2 (fun e => by have := HORD.out; omega)
 have H2 := hid (And.intro p2 (And.intro v2 (And.intro (H1.out.2.2.2.2.trans f2 fid2) b2)))
 have c0 := cells_row q2 0 _ rfl
 have c1 := cells_row q2 1 _ rfl
 have c2 := cells_row q2 2 _ rfl
 have c3 := cells_row q2 3 _ rfl
 have t0 := cells_row v2 0 _ rfl
 have u0 : w2.frozen? ⟨pb, 0, none⟩ = false := by simp [World.frozen?, v2]
 have s0 := cells_row p2 0 _ rfl
 have y0 : w2.frozen? ⟨rb, 0, none⟩ = false := by simp [World.frozen?, p2]
 have t1 := cells_row v2 1 _ rfl
 have u1 : w2.frozen? ⟨pb, 1, none⟩ = false := by simp [World.frozen?, v2]
 have s1 := cells_row p2 1 _ rfl
 have y1 : w2.frozen? ⟨rb, 1, none⟩ = false := by simp [World.frozen?, p2]
 have t2 := cells_row v2 2 _ rfl
 have u2 : w2.frozen? ⟨pb, 2, none⟩ = false := by simp [World.frozen?, v2]
 have s2 := cells_row p2 2 _ rfl
 have y2 : w2.frozen? ⟨rb, 2, none⟩ = false := by simp [World.frozen?, p2]
 have t3 := cells_row v2 3 _ rfl
 have u3 : w2.frozen? ⟨pb, 3, none⟩ = false := by simp [World.frozen?, v2]
 have s3 := cells_row p2 3 _ rfl
 have y3 : w2.frozen? ⟨rb, 3, none⟩ = false := by simp [World.frozen?, p2]
 clear f2 b2 q2 p2 v2
 go_wp2
 have f3 : Fr (fun k => k = pb) w2 (w2.setCell ⟨pb, 0, none⟩ (.int .i64 x)) := (Fr.refl _ _).set1 _ _
 refine bodyPost_ret (results_cell_row rfl _ _ rb 58 _ _ _ rfl (store_four (box_kept H2.out.1 f3 (fun e => by have := HORD.out; omega))) Try.underlying58 rfl (by kernel_rfl)) rfl ?_
 refine rbuild_done (box_kept H2.out.1 f3 (fun e => by have := HORD.out; omega)) (rfl_new H2.out.2.2.1 (fun k hk => by have := HORD.out; have := HTB.out; omega) f3) (H2.out.2.2.2.fr f3 (fun e => by have := HORD.out; omega)) (by have := HORD.out; omega) (by have := HORD.out; have := HTB.out; omega) (by unfold buildE; have hk := HK.out.1; subst hk; simp only [vnum]; rw [<- HX.out]; rfl) (by unfold VB maxLen; simp; first | omega | skip) (.inl rfl)

set_option maxRecDepth 100000 in
theorem rbuild_k2 (l : List Int) (k : Nat) (m : Int) (ns : List Txt) (n : Nat) (of : Nat -> KT) (hk0 : k = 2) : RBuildAt l (.mk k m ns n of) := by
 intro R v nv w b tk bg hgood htk hbg hsh hRb hnum hbox
 obtain ⟨⟨hn12, hown⟩, hkids⟩ := hgood
 obtain ⟨hk8, hmost, hone, hparts, hnames, hnone⟩ := own_facts hown
 have hcost : 1 <= costE (.mk k m ns n of) := by unfold costE; omega
 have htk' : tk <= 100000 := by omega
 have hbg' : bg + 1 <= 100000 := by omega
 obtain ⟨_, _, _, _, _, a', c', e1, rfl, hrb, hrk⟩ := rshows_open hsh
 cases e1
 obtain ⟨nn, hnn⟩ : ∃ nn, ns.length = nn := ⟨_, rfl⟩
 have HRK := hid hrk
 have HRB := hid (show ∀ i, R i -> ¬ i = b from fun i hi e => hRb (by rw [<- e]; exact hi))
 have HN := hid hnum
 have HBX := hid hbox
 have hbl : b < w.heap.size := lt_of_block hbox
 have HBL := hid hbl
 obtain ⟨na, nc, rfl⟩ := hnum.shape
 unfold MBox at hbox
 have r0 := cells_row hbox 2 _ rfl
 have z0 : w.frozen? ⟨b, 2, none⟩ = false := by simp [World.frozen?, hbox]
 have n1 : b ≠ w.heap.size := by omega
 have n2 : w.heap.size ≠ b := by omega
 have n3 : b ≠ w.heap.size + 1 := by omega
 have n4 : w.heap.size + 1 ≠ b := by omega
 have HK := hid (And.intro hk0 (And.intro hmost (And.intro hone (And.intro hparts (And.intro hnames (And.intro hnone hnn))))))
 have HKIDS := hid hkids
 have HCST := hid (And.intro htk hbg)
 
 rw [hnn] at hrb ⊢
 obtain ⟨kz, hkz⟩ : ∃ kz : Int, (k : Int) = kz := ⟨_, rfl⟩
 rw [hkz]
 have e0 : (kz == 0) = false := by simp; omega
 have e1 : (kz == 1) = false := by simp; omega
 have e2 : (kz == 2) = true := by simp; omega
 have e3 : (kz == 3) = false := by simp; omega
 have e4 : (kz == 4) = false := by simp; omega
 have e5 : (kz == 5) = false := by simp; omega
 have e6 : (kz == 6) = false := by simp; omega
 have e7 : (kz == 7) = false := by simp; omega
 have e8 : (kz == 8) = false := by simp; omega
 clear hsh hrk hRb hnum hbox hk0 hk8 hmost hone hparts hnames hnone hkids htk hbg hkz hown hcost hrb hnn
 obtain ⟨w1, hw1⟩ : ∃ w1, w1 = (((w.setCell ⟨b, 2, none⟩ (.int .i64 ((bg : Int) + 1))).alloc (.cells #[.int .i64 kz, .int .i64 m, .int .i64 (nn : Nat), .slice a' n c'] 54)).alloc (.cells #[.int .i64 0, .float .f64 0, .string ⟨#[]⟩, .slice none 0 0] 58)).alloc (.cells #[.int .i64 0, .float .f64 0, .string ⟨#[]⟩, .slice none 0 0] 58) := ⟨_, rfl⟩
 obtain ⟨q1, p1, v1, b1, f1⟩ := rbuild_box kz m nn a' n c' HBX.out hw1
 go_enter Try.func15, Try.ntmps15
 go_upto_region 3 with fail
 rw [<- hw1]
 obtain ⟨tb, htb⟩ : ∃ tb, w.heap.size = tb := ⟨_, rfl⟩
 rw [htb] at q1 p1 v1 hbl n1 n2 n3 n4 ⊢
 have HTB := hid htb
 clear hw1 htb r0 z0 n1 n2 n3 n4 hbl
 try simp only [Nat.add_assoc, Nat.reduceAdd]
 obtain ⟨rb, hrb⟩ : ∃ rb, tb + 1 = rb := ⟨_, rfl⟩
 obtain ⟨pb, hpb⟩ : ∃ pb, tb + 2 = pb := ⟨_, rfl⟩
 rw [hrb] at p1 ⊢
 rw [hpb] at v1 ⊢
 have HORD := hid (show b < tb /\ tb < rb /\ rb < pb from ⟨by have := HBL.out; have := HTB.out; omega, by omega, by omega⟩)
 have m1 : tb ≠ pb := by omega
 have m2 : rb ≠ pb := by omega
 have m3 : pb ≠ rb := by omega
 have m4 : tb ≠ rb := by omega
 clear hrb hpb
 have H1 := hid (And.intro q1 (And.intro p1 (And.intro v1 (And.intro b1 f1))))
 have c0 := cells_row q1 0 _ rfl
 have c1 := cells_row q1 1 _ rfl
 have c2 := cells_row q1 2 _ rfl
 have c3 := cells_row q1 3 _ rfl
 clear q1 p1 v1 b1 f1
 have hnext := rnext_any R l _ b tk (bg + 1) (4294967296 : Int) w1 H1.out.2.2.2.1 (HN.out.fr H1.out.2.2.2.2 HRB.out) htk' (by omega) (by omega)
 obtain ⟨x, hx⟩ : ∃ x, numE l tk % (4294967296 : Int) = x := ⟨_, rfl⟩
 have hx0 : 0 <= x := by rw [<- hx]; exact Int.emod_nonneg _ (by omega)
 have hx1 : x < (4294967296 : Int) := by rw [<- hx]; exact Int.emod_lt_of_pos _ (by omega)
 rw [hx] at hnext
 have HX := hid hx
 clear hx
 go_wp2_with fail
 refine hnext.mono ?_
 rintro e w2 ⟨rfl, f2, b2⟩
 clear hnext c0 c1 c2 c3
 have q2 := box_kept H1.out.1 f2 (fun e => by have := HORD.out; omega)
 have p2 := box_kept H1.out.2.1 f2 (fun e => by have := HORD.out; omega)
 have v2 := box_kept H1.out.2.2.1 f2 (fun e => by have := HORD.out; omega)
 have H2 := hid (And.intro p2 (And.intro v2 (And.intro (H1.out.2.2.2.2.trans f2 fid2) b2)))
 have c0 := cells_row q2 0 _ rfl
 have c1 := cells_row q2 1 _ rfl
 have c2 := cells_row q2 2 _ rfl
 have c3 := cells_row q2 3 _ rfl
 have t0 := cells_row v2 0 _ rfl
 have u0 : w2.frozen? ⟨pb, 0, none⟩ = false := by simp [World.frozen?, v2]
 have s0 := cells_row p2 0 _ rfl
 have y0 : w2.frozen? ⟨rb, 0, none⟩ = false := by simp [World.frozen?, p2]
 have t1 := cells_row v2 1 _ rfl
 have u1 : w2.frozen? ⟨pb, 1, none⟩ = false := by simp [World.frozen?, v2]
 have s1 := cells_row p2 1 _ rfl
 have y1 : w2.frozen? ⟨rb, 1, none⟩ = false := by simp [World.frozen?, p2]
 have t2 := cells_row v2 2 _ rfl
 have u2 : w2.frozen? ⟨pb, 2, none⟩ = false := by simp [World.frozen?, v2]
 have s2 := cells_row p2 2 _ rfl
 have y2 : w2.frozen? ⟨rb, 2, none⟩ = false := by simp [World.frozen?, p2]
 have t3 := cells_row v2 3 _ rfl
 have u3 : w2.frozen? ⟨pb, 3, none⟩ = false := by simp [World.frozen?, v2]
 have s3 := cells_row p2 3 _ rfl
 have y3 : w2.frozen? ⟨rb, 3, none⟩ = false := by simp [World.frozen?, p2]
 clear f2 b2 q2 p2 v2
 by_cases hbig : 2147483648 <= x
 ·have HBG := hid hbig
  have l1 : decide (2147483648 <= x) = true := by simp; omega
  have wk : wrap64 (x - 4294967296) = x - 4294967296 := IntWalk.wrap64_in _ (by omega)
  go_wp2
  have f3 : Fr (fun k => k = pb) w2 ((w2.setCell ⟨pb, 0, none⟩ (.int .i64 x)).setCell ⟨pb, 0, none⟩ (.int .i64 (x - 4294967296))) := ((Fr.refl _ _).set1 _ _).set1 _ _
  refine bodyPost_ret (results_cell_row rfl _ _ rb 58 _ _ _ rfl (store_four (box_kept H2.out.1 f3 (fun e => by have := HORD.out; omega))) Try.underlying58 rfl (by kernel_rfl)) rfl ?_
  refine rbuild_done (box_kept H2.out.1 f3 (fun e => by have := HORD.out; omega)) (rfl_new H2.out.2.2.1 (fun k hk => by have := HORD.out; have := HTB.out; omega) f3) (H2.out.2.2.2.fr f3 (fun e => by have := HORD.out; omega)) (by have := HORD.out; omega) (by have := HORD.out; have := HTB.out; omega) (by unfold buildE; have hk := HK.out.1; subst hk; simp only [vnum]; rw [show x - 4294967296 = long32 x from by unfold long32; rw [if_neg (by have := HBG.out; omega)], <- HX.out]; rfl) (by unfold VB maxLen; simp; first | omega | skip) (.inl rfl)
 ·have HBG := hid hbig
  have l1 : decide (2147483648 <= x) = false := by simp; omega
  go_wp2
  have f3 : Fr (fun k => k = pb) w2 (w2.setCell ⟨pb, 0, none⟩ (.int .i64 x)) := (Fr.refl _ _).set1 _ _
  refine bodyPost_ret (results_cell_row rfl _ _ rb 58 _ _ _ rfl (store_four (box_kept H2.out.1 f3 (fun e => by have := HORD.out; omega))) Try.underlying58 rfl (by kernel_rfl)) rfl ?_
  refine rbuild_done (box_kept H2.out.1 f3 (fun e => by have := HORD.out; omega)) (rfl_new H2.out.2.2.1 (fun k hk => by have := HORD.out; have := HTB.out; omega) f3) (H2.out.2.2.2.fr f3 (fun e => by have := HORD.out; omega)) (by have := HORD.out; omega) (by have := HORD.out; have := HTB.out; omega) (by unfold buildE; have hk := HK.out.1; subst hk; simp only [vnum]; rw [show x = long32 x from by unfold long32; rw [if_pos (by have := HBG.out; omega)], <- HX.out]; rfl) (by unfold VB maxLen; simp; first | omega | skip) (.inl rfl)

set_option maxRecDepth 100000 in
theorem rbuild_k7 (l : List Int) (k : Nat) (m : Int) (ns : List Txt) (n : Nat) (of : Nat -> KT) (hk0 : k = 7) : RBuildAt l (.mk k m ns n of) := by
 intro R v nv w b tk bg hgood htk hbg hsh hRb hnum hbox
 obtain ⟨⟨hn12, hown⟩, hkids⟩ := hgood
 obtain ⟨hk8, hmost, hone, hparts, hnames, hnone⟩ := own_facts hown
 have hcost : 1 <= costE (.mk k m ns n of) := by unfold costE; omega
 have htk' : tk <= 100000 := by omega
 have hbg' : bg + 1 <= 100000 := by omega
 obtain ⟨_, _, _, _, _, a', c', e1, rfl, hrb, hrk⟩ := rshows_open hsh
 cases e1
 obtain ⟨nn, hnn⟩ : ∃ nn, ns.length = nn := ⟨_, rfl⟩
 have HRK := hid hrk
 have HRB := hid (show ∀ i, R i -> ¬ i = b from fun i hi e => hRb (by rw [<- e]; exact hi))
 have HN := hid hnum
 have HBX := hid hbox
 have hbl : b < w.heap.size := lt_of_block hbox
 have HBL := hid hbl
 obtain ⟨na, nc, rfl⟩ := hnum.shape
 unfold MBox at hbox
 have r0 := cells_row hbox 2 _ rfl
 have z0 : w.frozen? ⟨b, 2, none⟩ = false := by simp [World.frozen?, hbox]
 have n1 : b ≠ w.heap.size := by omega
 have n2 : w.heap.size ≠ b := by omega
 have n3 : b ≠ w.heap.size + 1 := by omega
 have n4 : w.heap.size + 1 ≠ b := by omega
 have HK := hid (And.intro hk0 (And.intro hmost (And.intro hone (And.intro hparts (And.intro hnames (And.intro hnone hnn))))))
 have HKIDS := hid hkids
 have HCST := hid (And.intro htk hbg)
 have hnn1 : 1 <= nn /\ nn <= 12 := by have := hnames (by omega); omega
 rw [hnn] at hrb ⊢
 obtain ⟨kz, hkz⟩ : ∃ kz : Int, (k : Int) = kz := ⟨_, rfl⟩
 rw [hkz]
 have e0 : (kz == 0) = false := by simp; omega
 have e1 : (kz == 1) = false := by simp; omega
 have e2 : (kz == 2) = false := by simp; omega
 have e3 : (kz == 3) = false := by simp; omega
 have e4 : (kz == 4) = false := by simp; omega
 have e5 : (kz == 5) = false := by simp; omega
 have e6 : (kz == 6) = false := by simp; omega
 have e7 : (kz == 7) = true := by simp; omega
 have e8 : (kz == 8) = false := by simp; omega
 clear hsh hrk hRb hnum hbox hk0 hk8 hmost hone hparts hnames hnone hkids htk hbg hkz hown hcost hrb hnn
 obtain ⟨w1, hw1⟩ : ∃ w1, w1 = (((w.setCell ⟨b, 2, none⟩ (.int .i64 ((bg : Int) + 1))).alloc (.cells #[.int .i64 kz, .int .i64 m, .int .i64 (nn : Nat), .slice a' n c'] 54)).alloc (.cells #[.int .i64 0, .float .f64 0, .string ⟨#[]⟩, .slice none 0 0] 58)).alloc (.cells #[.int .i64 0, .float .f64 0, .string ⟨#[]⟩, .slice none 0 0] 58) := ⟨_, rfl⟩
 obtain ⟨q1, p1, v1, b1, f1⟩ := rbuild_box kz m nn a' n c' HBX.out hw1
 go_enter Try.func15, Try.ntmps15
 go_upto_region 3 with fail
 rw [<- hw1]
 obtain ⟨tb, htb⟩ : ∃ tb, w.heap.size = tb := ⟨_, rfl⟩
 rw [htb] at q1 p1 v1 hbl n1 n2 n3 n4 ⊢
 have HTB := hid htb
 clear hw1 htb r0 z0 n1 n2 n3 n4 hbl
 try simp only [Nat.add_assoc, Nat.reduceAdd]
 obtain ⟨rb, hrb⟩ : ∃ rb, tb + 1 = rb := ⟨_, rfl⟩
 obtain ⟨pb, hpb⟩ : ∃ pb, tb + 2 = pb := ⟨_, rfl⟩
 rw [hrb] at p1 ⊢
 rw [hpb] at v1 ⊢
 have HORD := hid (show b < tb /\ tb < rb /\ rb < pb from ⟨by have := HBL.out; have := HTB.out; omega, by omega, by omega⟩)
 have m1 : tb ≠ pb := by omega
 have m2 : rb ≠ pb := by omega
 have m3 : pb ≠ rb := by omega
 have m4 : tb ≠ rb := by omega
 clear hrb hpb
 have H1 := hid (And.intro q1 (And.intro p1 (And.intro v1 (And.intro b1 f1))))
 have c0 := cells_row q1 0 _ rfl
 have c1 := cells_row q1 1 _ rfl
 have c2 := cells_row q1 2 _ rfl
 have c3 := cells_row q1 3 _ rfl
 clear q1 p1 v1 b1 f1
 have hnext := rnext_any R l _ b tk (bg + 1) (nn : Int) w1 H1.out.2.2.2.1 (HN.out.fr H1.out.2.2.2.2 HRB.out) htk' (by omega) (by omega)
 obtain ⟨x, hx⟩ : ∃ x, numE l tk % (nn : Int) = x := ⟨_, rfl⟩
 have hx0 : 0 <= x := by rw [<- hx]; exact Int.emod_nonneg _ (by omega)
 have hx1 : x < (nn : Int) := by rw [<- hx]; exact Int.emod_lt_of_pos _ (by omega)
 rw [hx] at hnext
 have HX := hid hx
 clear hx
 go_wp2_with fail
 refine hnext.mono ?_
 rintro e w2 ⟨rfl, f2, b2⟩
 clear hnext c0 c1 c2 c3
 have q2 := box_kept H1.out.1 f2 (fun e => by have := HORD.out; omega)
 have p2 := box_kept H1.out.2.1 f2 (fun e => by have := HORD.out; omega)
 have v2 := box_kept H1.out.2.2.1 f2 (fun e => by have := HORD.out; omega)
 have H2 := hid (And.intro p2 (And.intro v2 (And.intro (H1.out.2.2.2.2.trans f2 fid2) b2)))
 have c0 := cells_row q2 0 _ rfl
 have c1 := cells_row q2 1 _ rfl
 have c2 := cells_row q2 2 _ rfl
 have c3 := cells_row q2 3 _ rfl
 have t0 := cells_row v2 0 _ rfl
 have u0 : w2.frozen? ⟨pb, 0, none⟩ = false := by simp [World.frozen?, v2]
 have s0 := cells_row p2 0 _ rfl
 have y0 : w2.frozen? ⟨rb, 0, none⟩ = false := by simp [World.frozen?, p2]
 have t1 := cells_row v2 1 _ rfl
 have u1 : w2.frozen? ⟨pb, 1, none⟩ = false := by simp [World.frozen?, v2]
 have s1 := cells_row p2 1 _ rfl
 have y1 : w2.frozen? ⟨rb, 1, none⟩ = false := by simp [World.frozen?, p2]
 have t2 := cells_row v2 2 _ rfl
 have u2 : w2.frozen? ⟨pb, 2, none⟩ = false := by simp [World.frozen?, v2]
 have s2 := cells_row p2 2 _ rfl
 have y2 : w2.frozen? ⟨rb, 2, none⟩ = false := by simp [World.frozen?, p2]
 have t3 := cells_row v2 3 _ rfl
 have u3 : w2.frozen? ⟨pb, 3, none⟩ = false := by simp [World.frozen?, v2]
 have s3 := cells_row p2 3 _ rfl
 have y3 : w2.frozen? ⟨rb, 3, none⟩ = false := by simp [World.frozen?, p2]
 clear f2 b2 q2 p2 v2
 go_wp2
 have f3 : Fr (fun k => k = pb) w2 (w2.setCell ⟨pb, 0, none⟩ (.int .i64 x)) := (Fr.refl _ _).set1 _ _
 refine bodyPost_ret (results_cell_row rfl _ _ rb 58 _ _ _ rfl (store_four (box_kept H2.out.1 f3 (fun e => by have := HORD.out; omega))) Try.underlying58 rfl (by kernel_rfl)) rfl ?_
 refine rbuild_done (box_kept H2.out.1 f3 (fun e => by have := HORD.out; omega)) (rfl_new H2.out.2.2.1 (fun k hk => by have := HORD.out; have := HTB.out; omega) f3) (H2.out.2.2.2.fr f3 (fun e => by have := HORD.out; omega)) (by have := HORD.out; omega) (by have := HORD.out; have := HTB.out; omega) (by unfold buildE; have hk := HK.out.1; subst hk; simp only [vnum]; rw [<- HX.out, HK.out.2.2.2.2.2.2]; rfl) (by unfold VB maxLen; simp; first | omega | skip) (.inl rfl)
end
section
attribute [local go_sem] run_store_float

theorem vkids_one {w : World} {S : Nat -> Prop} {g : Nat} {z0 z1 z2 z3 : Value} {e : TypeId} {T : VT} (hg : S g) (h : w.heap[g]? = some (.cells #[z0, z1, z2, z3] e (0, 0))) (hs : VShows S w T (.agg #[z0, z1, z2, z3])) : VKids S w (fun _ => T) (some ⟨g, 0, none⟩) 1 1 := by
 refine .inr ⟨Nat.le_refl _, g, 0, hg, rfl, fun i hi => ?_⟩
 obtain rfl : i = 0 := by omega
 exact ⟨z0, z1, z2, z3, by simpa using cells_row h 0 _ rfl, by simpa using cells_row h 1 _ rfl, by simpa using cells_row h 2 _ rfl, by simpa using cells_row h 3 _ rfl, hs⟩

set_option maxRecDepth 100000 in
theorem rbuild_k8 (l : List Int) (k : Nat) (m : Int) (ns : List Txt) (n : Nat) (of : Nat -> KT) (ih : ∀ i, RBuildAt l (of i)) (hk0 : k = 8) : RBuildAt l (.mk k m ns n of) := by
 intro R v nv w b tk bg hgood htk hbg hsh hRb hnum hbox
 obtain ⟨⟨hn12, hown⟩, hkids⟩ := hgood
 obtain ⟨hk8, hmost, hone, hparts, hnames, hnone⟩ := own_facts hown
 have hcost : 1 <= costE (.mk k m ns n of) := by unfold costE; omega
 have htk' : tk <= 100000 := by omega
 have hbg' : bg + 1 <= 100000 := by omega
 obtain ⟨_, _, _, _, _, a', c', e1, rfl, hrb, hrk⟩ := rshows_open hsh
 cases e1
 obtain ⟨nn, hnn⟩ : ∃ nn, ns.length = nn := ⟨_, rfl⟩
 have HRK := hid hrk
 have HRB := hid (show ∀ i, R i -> ¬ i = b from fun i hi e => hRb (by rw [<- e]; exact hi))
 have HN := hid hnum
 have HBX := hid hbox
 have hbl : b < w.heap.size := lt_of_block hbox
 have HBL := hid hbl
 obtain ⟨na, nc, rfl⟩ := hnum.shape
 unfold MBox at hbox
 have r0 := cells_row hbox 2 _ rfl
 have z0 : w.frozen? ⟨b, 2, none⟩ = false := by simp [World.frozen?, hbox]
 have n1 : b ≠ w.heap.size := by omega
 have n2 : w.heap.size ≠ b := by omega
 have n3 : b ≠ w.heap.size + 1 := by omega
 have n4 : w.heap.size + 1 ≠ b := by omega
 have HK := hid (And.intro hk0 (And.intro hmost (And.intro hone (And.intro hparts (And.intro hnames (And.intro hnone hnn))))))
 have HKIDS := hid hkids
 have HCST := hid (And.intro htk hbg)
 
 rw [hnn] at hrb ⊢
 obtain ⟨kz, hkz⟩ : ∃ kz : Int, (k : Int) = kz := ⟨_, rfl⟩
 rw [hkz]
 have e0 : (kz == 0) = false := by simp; omega
 have e1 : (kz == 1) = false := by simp; omega
 have e2 : (kz == 2) = false := by simp; omega
 have e3 : (kz == 3) = false := by simp; omega
 have e4 : (kz == 4) = false := by simp; omega
 have e5 : (kz == 5) = false := by simp; omega
 have e6 : (kz == 6) = false := by simp; omega
 have e7 : (kz == 7) = false := by simp; omega
 have e8 : (kz == 8) = true := by simp; omega
 clear hsh hrk hRb hnum hbox hk0 hk8 hmost hone hparts hnames hnone hkids htk hbg hkz hown hcost hrb hnn
 obtain ⟨w1, hw1⟩ : ∃ w1, w1 = (((w.setCell ⟨b, 2, none⟩ (.int .i64 ((bg : Int) + 1))).alloc (.cells #[.int .i64 kz, .int .i64 m, .int .i64 (nn : Nat), .slice a' n c'] 54)).alloc (.cells #[.int .i64 0, .float .f64 0, .string ⟨#[]⟩, .slice none 0 0] 58)).alloc (.cells #[.int .i64 0, .float .f64 0, .string ⟨#[]⟩, .slice none 0 0] 58) := ⟨_, rfl⟩
 obtain ⟨q1, p1, v1, b1, f1⟩ := rbuild_box kz m nn a' n c' HBX.out hw1
 go_enter Try.func15, Try.ntmps15
 go_upto_region 3 with fail
 rw [<- hw1]
 obtain ⟨tb, htb⟩ : ∃ tb, w.heap.size = tb := ⟨_, rfl⟩
 rw [htb] at q1 p1 v1 hbl n1 n2 n3 n4 ⊢
 have HTB := hid htb
 clear hw1 htb r0 z0 n1 n2 n3 n4 hbl
 try simp only [Nat.add_assoc, Nat.reduceAdd]
 obtain ⟨rb, hrb⟩ : ∃ rb, tb + 1 = rb := ⟨_, rfl⟩
 obtain ⟨pb, hpb⟩ : ∃ pb, tb + 2 = pb := ⟨_, rfl⟩
 rw [hrb] at p1 ⊢
 rw [hpb] at v1 ⊢
 have HORD := hid (show b < tb /\ tb < rb /\ rb < pb from ⟨by have := HBL.out; have := HTB.out; omega, by omega, by omega⟩)
 have m1 : tb ≠ pb := by omega
 have m2 : rb ≠ pb := by omega
 have m3 : pb ≠ rb := by omega
 have m4 : tb ≠ rb := by omega
 clear hrb hpb
 have H1 := hid (And.intro q1 (And.intro p1 (And.intro v1 (And.intro b1 f1))))
 have c0 := cells_row q1 0 _ rfl
 have c1 := cells_row q1 1 _ rfl
 have c2 := cells_row q1 2 _ rfl
 have c3 := cells_row q1 3 _ rfl
 clear q1 p1 v1 b1 f1
 have hn1 : 1 <= n := by have := HK.out.2.2.2.1 (.inr HK.out.1); have := (HK.out.2.2.2.2.1 (.inr (.inr HK.out.1))).1; omega
 have hnext := rnext_any R l _ b tk (bg + 1) (n : Int) w1 H1.out.2.2.2.1 (HN.out.fr H1.out.2.2.2.2 HRB.out) htk' (by omega) (by omega)
 obtain ⟨x, hx⟩ : ∃ x : Nat, numE l tk % (n : Int) = x := ⟨(numE l tk % (n : Int)).toNat, by have := Int.emod_nonneg (numE l tk) (show (n : Int) ≠ 0 by omega); omega⟩
 have hxn : x < n := by have := Int.emod_lt_of_pos (numE l tk) (show 0 < (n : Int) by omega); omega
 rw [hx] at hnext
 have HX := hid hx
 rcases HRK.out with hz | ⟨hcap, g, off, hg, rfl, hcell⟩
 ·omega
 obtain ⟨z0, z1, z2, z3, k0, k1, k2, k3, hxs⟩ := hcell x hxn
 obtain ⟨ak, am, an, aa, ac, acap, ex⟩ := hxs.lit
 simp only [Value.agg.injEq, Array.mk.injEq, List.cons.injEq, and_true] at ex
 obtain ⟨rfl, rfl, rfl, rfl⟩ := ex
 have HXS := hid (RShows.mono (S := fun k => R k /\ k < w.heap.size) (fun k hk h => ⟨h, hk⟩) _ _ hxs)
 have HY := hid (And.intro hg (And.intro k0 (And.intro k1 (And.intro k2 k3))))
 have HN2 := hid (HN.out.mono (S := fun k => R k /\ k < w.heap.size) (fun k hk h => ⟨h, hk⟩))
 clear hx hcell k0 k1 k2 k3 hxs hg
 go_wp2_with fail
 refine hnext.mono ?_
 rintro e w2 ⟨rfl, f2, b2⟩
 clear hnext c0 c1 c2 c3
 have q2 := box_kept H1.out.1 f2 (fun e => by have := HORD.out; omega)
 have p2 := box_kept H1.out.2.1 f2 (fun e => by have := HORD.out; omega)
 have v2 := box_kept H1.out.2.2.1 f2 (fun e => by have := HORD.out; omega)
 obtain ⟨w3, hw3⟩ : ∃ w3, w3 = w2.setCell ⟨pb, 0, none⟩ (.int .i64 x) := ⟨_, rfl⟩
 have f3 : Fr (fun k => k = pb) w2 w3 := by rw [hw3]; exact (Fr.refl _ _).set1 _ _
 have q3 := box_kept q2 f3 (fun e => by have := HORD.out; omega)
 have p3 := box_kept p2 f3 (fun e => by have := HORD.out; omega)
 have v3 : w3.heap[pb]? = some (.cells #[.int .i64 (x : Nat), .float .f64 0, .string ⟨#[]⟩, .slice none 0 0] 58 (0, 0)) := by rw [hw3]; exact setCell_row 0 _ v2
 have f03 : Fr (fun k => k = b) w w3 := rfl_new (H1.out.2.2.2.2.trans f2 fid2) (fun k hk => by have := HORD.out; have := HTB.out; omega) f3
 have b3 := b2.fr f3 (fun e => by have := HORD.out; omega)
 have c0 := cells_row q2 0 _ rfl
 have t0 := cells_row v2 0 _ rfl
 have u0 : w2.frozen? ⟨pb, 0, none⟩ = false := by simp [World.frozen?, v2]
 have s0 := cells_row p2 0 _ rfl
 have y0 : w2.frozen? ⟨rb, 0, none⟩ = false := by simp [World.frozen?, p2]
 have c1 := cells_row q2 1 _ rfl
 have t1 := cells_row v2 1 _ rfl
 have u1 : w2.frozen? ⟨pb, 1, none⟩ = false := by simp [World.frozen?, v2]
 have s1 := cells_row p2 1 _ rfl
 have y1 : w2.frozen? ⟨rb, 1, none⟩ = false := by simp [World.frozen?, p2]
 have c2 := cells_row q2 2 _ rfl
 have t2 := cells_row v2 2 _ rfl
 have u2 : w2.frozen? ⟨pb, 2, none⟩ = false := by simp [World.frozen?, v2]
 have s2 := cells_row p2 2 _ rfl
 have y2 : w2.frozen? ⟨rb, 2, none⟩ = false := by simp [World.frozen?, p2]
 have c3 := cells_row q2 3 _ rfl
 have t3 := cells_row v2 3 _ rfl
 have u3 : w2.frozen? ⟨pb, 3, none⟩ = false := by simp [World.frozen?, v2]
 have s3 := cells_row p2 3 _ rfl
 have y3 : w2.frozen? ⟨rb, 3, none⟩ = false := by simp [World.frozen?, p2]
 have H3 := hid (And.intro q3 (And.intro p3 (And.intro v3 (And.intro f03 b3))))
 clear f2 b2 q2 p2 v2 f3 q3 p3 v3 f03 b3
 go_upto_region 37 with fail
 rw [<- hw3]
 clear hw3 c0 c1 c2 c3 t0 t1 t2 t3 u0 u1 u2 u3 s0 s1 s2 s3 y0 y1 y2 y3
 have q3 := H3.out.1
 have p3 := H3.out.2.1
 have v3 := H3.out.2.2.1
 have c0 := cells_row q3 0 _ rfl
 have t0 := cells_row v3 0 _ rfl
 have u0 : w3.frozen? ⟨pb, 0, none⟩ = false := by simp [World.frozen?, v3]
 have s0 := cells_row p3 0 _ rfl
 have y0 : w3.frozen? ⟨rb, 0, none⟩ = false := by simp [World.frozen?, p3]
 have c1 := cells_row q3 1 _ rfl
 have t1 := cells_row v3 1 _ rfl
 have u1 : w3.frozen? ⟨pb, 1, none⟩ = false := by simp [World.frozen?, v3]
 have s1 := cells_row p3 1 _ rfl
 have y1 : w3.frozen? ⟨rb, 1, none⟩ = false := by simp [World.frozen?, p3]
 have c2 := cells_row q3 2 _ rfl
 have t2 := cells_row v3 2 _ rfl
 have u2 : w3.frozen? ⟨pb, 2, none⟩ = false := by simp [World.frozen?, v3]
 have s2 := cells_row p3 2 _ rfl
 have y2 : w3.frozen? ⟨rb, 2, none⟩ = false := by simp [World.frozen?, p3]
 have c3 := cells_row q3 3 _ rfl
 have t3 := cells_row v3 3 _ rfl
 have u3 : w3.frozen? ⟨pb, 3, none⟩ = false := by simp [World.frozen?, v3]
 have s3 := cells_row p3 3 _ rfl
 have y3 : w3.frozen? ⟨rb, 3, none⟩ = false := by simp [World.frozen?, p3]
 have k0 := cell_fr H3.out.2.2.2.1 HRB.out HY.out.1 HY.out.2.1
 have k1 := cell_fr H3.out.2.2.2.1 HRB.out HY.out.1 HY.out.2.2.1
 have k2 := cell_fr H3.out.2.2.2.1 HRB.out HY.out.1 HY.out.2.2.2.1
 have k3 := cell_fr H3.out.2.2.2.1 HRB.out HY.out.1 HY.out.2.2.2.2
 have hxi : (x : Int) < (n : Int) := by omega
 have hx0 : (0 : Int) <= (x : Int) := by omega
 have hbnd : nextE l tk + costE (of x) <= 100000 /\ (bg + 1) + costE (of x) <= 100000 := by
  have h1 := nextE_le l tk
  have h2 := HCST.out
  rw [cost_parts k m ns n of (by have := HK.out.1; omega)] at h2
  have h3 := sumTo_le (fun i => costE (of i)) x n hxn
  omega
 have hrec := ih x (fun k => R k /\ k < w.heap.size) _ _ w3 b (nextE l tk) (bg + 1) (HKIDS.out x hxn) hbnd.1 hbnd.2 (RShows.fr H3.out.2.2.2.1 (fun k hk e => HRB.out k hk.1 e) _ _ HXS.out) (fun h => HRB.out b h.1 rfl) (HN2.out.fr H3.out.2.2.2.1 (fun k hk e => HRB.out k hk.1 e)) H3.out.2.2.2.2
 clear hbnd q3 p3 v3
 go_wp2_with fail
 refine hrec.mono ?_
 rintro e w4 ⟨v', rfl, hsv, f4, b4⟩
 clear hrec k0 k1 k2 k3 c0 c1 c2 c3 t0 t1 t2 t3 u0 u1 u2 u3 s0 s1 s2 s3 y0 y1 y2 y3
 obtain ⟨zn, zf, zs, za, zc, zcap, e4⟩ := hsv.lit
 subst e4
 have q4 := box_kept H3.out.1 f4 (fun e => by have := HORD.out; omega)
 have p4 := box_kept H3.out.2.1 f4 (fun e => by have := HORD.out; omega)
 have v4 := box_kept H3.out.2.2.1 f4 (fun e => by have := HORD.out; omega)
 have rl := lt_of_block v4
 have rn1 : pb ≠ w4.heap.size := by omega
 have rn2 : w4.heap.size ≠ pb := by omega
 obtain ⟨w6, hw6⟩ : ∃ w6, w6 = (w4.setCell ⟨pb, 3, none⟩ (.slice (some ⟨w4.heap.size, 0, none⟩) 1 1)).alloc (.cells #[.int .i64 zn, .float .f64 zf, .string zs, .slice za zc zcap] 58) := ⟨_, rfl⟩
 have f6 : Fr (fun k => k = pb) w4 w6 := by rw [hw6]; exact ((Fr.refl _ _).set1 _ _).alloc _
 have g6 : w6.heap[w4.heap.size]? = some (.cells #[.int .i64 zn, .float .f64 zf, .string zs, .slice za zc zcap] 58 (0, 0)) := by
  have h := heap_alloc_new (w4.setCell ⟨pb, 3, none⟩ (.slice (some ⟨w4.heap.size, 0, none⟩) 1 1)) (.cells #[.int .i64 zn, .float .f64 zf, .string zs, .slice za zc zcap] 58)
  rw [show (w4.setCell ⟨pb, 3, none⟩ (.slice (some ⟨w4.heap.size, 0, none⟩) 1 1)).heap.size = w4.heap.size by simp [World.setCell]] at h
  rw [hw6]; exact h
 have q6 := box_kept q4 f6 (fun e => by have := HORD.out; omega)
 have p6 := box_kept p4 f6 (fun e => by have := HORD.out; omega)
 have v6 : w6.heap[pb]? = some (.cells #[.int .i64 (x : Nat), .float .f64 0, .string ⟨#[]⟩, .slice (some ⟨w4.heap.size, 0, none⟩) 1 1] 58 (0, 0)) := by
  rw [hw6]
  exact box_kept (setCell_row 3 _ v4) ((Fr.refl (fun _ => False) _).alloc _) (fun h => h)
 have c0 := cells_row q4 0 _ rfl
 have t0 := cells_row v4 0 _ rfl
 have u0 : w4.frozen? ⟨pb, 0, none⟩ = false := by simp [World.frozen?, v4]
 have s0 := cells_row p4 0 _ rfl
 have y0 : w4.frozen? ⟨rb, 0, none⟩ = false := by simp [World.frozen?, p4]
 have c1 := cells_row q4 1 _ rfl
 have t1 := cells_row v4 1 _ rfl
 have u1 : w4.frozen? ⟨pb, 1, none⟩ = false := by simp [World.frozen?, v4]
 have s1 := cells_row p4 1 _ rfl
 have y1 : w4.frozen? ⟨rb, 1, none⟩ = false := by simp [World.frozen?, p4]
 have c2 := cells_row q4 2 _ rfl
 have t2 := cells_row v4 2 _ rfl
 have u2 : w4.frozen? ⟨pb, 2, none⟩ = false := by simp [World.frozen?, v4]
 have s2 := cells_row p4 2 _ rfl
 have y2 : w4.frozen? ⟨rb, 2, none⟩ = false := by simp [World.frozen?, p4]
 have c3 := cells_row q4 3 _ rfl
 have t3 := cells_row v4 3 _ rfl
 have u3 : w4.frozen? ⟨pb, 3, none⟩ = false := by simp [World.frozen?, v4]
 have s3 := cells_row p4 3 _ rfl
 have y3 : w4.frozen? ⟨rb, 3, none⟩ = false := by simp [World.frozen?, p4]
 have hsz3 : pb < w3.heap.size := lt_of_block H3.out.2.2.1
 have H6 := hid (And.intro q6 (And.intro p6 (And.intro v6 (And.intro (rfl_new (H3.out.2.2.2.1.trans f4 fid2) (fun k hk => by have := HORD.out; have := HTB.out; omega) f6) (And.intro (b4.fr f6 (fun e => by have := HORD.out; omega)) (And.intro (show VShows (fun k => w.heap.size <= k /\ k ≠ rb) w6 (buildE l (of x) (nextE l tk, bg + 1)).1 (.agg #[.int .i64 zn, .float .f64 zf, .string zs, .slice za zc zcap]) from VShows.mono (fun k _ (hk : w3.heap.size <= k) => by have := HORD.out; have := HTB.out; omega) _ _ (VShows.fr f6 (fun k (hk : w3.heap.size <= k) e => by omega) _ _ hsv)) (And.intro g6 (show w.heap.size <= w4.heap.size /\ w4.heap.size ≠ rb from ⟨by have := HORD.out; have := HTB.out; omega, by have := HORD.out; omega⟩))))))))
 clear hsv f4 b4 q4 p4 v4 f6 g6 q6 p6 v6
 go_upto_region 38 with fail
 rw [<- hw6]
 clear hw6 rn1 rn2 rl hsz3 c0 c1 c2 c3 t0 t1 t2 t3 u0 u1 u2 u3 s0 s1 s2 s3 y0 y1 y2 y3
 generalize w4.heap.size = g4 at *
 have q6 := H6.out.1
 have p6 := H6.out.2.1
 have v6 := H6.out.2.2.1
 have c0 := cells_row q6 0 _ rfl
 have t0 := cells_row v6 0 _ rfl
 have u0 : w6.frozen? ⟨pb, 0, none⟩ = false := by simp [World.frozen?, v6]
 have s0 := cells_row p6 0 _ rfl
 have y0 : w6.frozen? ⟨rb, 0, none⟩ = false := by simp [World.frozen?, p6]
 have c1 := cells_row q6 1 _ rfl
 have t1 := cells_row v6 1 _ rfl
 have u1 : w6.frozen? ⟨pb, 1, none⟩ = false := by simp [World.frozen?, v6]
 have s1 := cells_row p6 1 _ rfl
 have y1 : w6.frozen? ⟨rb, 1, none⟩ = false := by simp [World.frozen?, p6]
 have c2 := cells_row q6 2 _ rfl
 have t2 := cells_row v6 2 _ rfl
 have u2 : w6.frozen? ⟨pb, 2, none⟩ = false := by simp [World.frozen?, v6]
 have s2 := cells_row p6 2 _ rfl
 have y2 : w6.frozen? ⟨rb, 2, none⟩ = false := by simp [World.frozen?, p6]
 have c3 := cells_row q6 3 _ rfl
 have t3 := cells_row v6 3 _ rfl
 have u3 : w6.frozen? ⟨pb, 3, none⟩ = false := by simp [World.frozen?, v6]
 have s3 := cells_row p6 3 _ rfl
 have y3 : w6.frozen? ⟨rb, 3, none⟩ = false := by simp [World.frozen?, p6]
 clear q6 p6 v6
 have HE8 : Hid (buildE l (.mk k m ns n of) (tk, bg) = (.mk x 0 [] 1 (fun _ => (buildE l (of x) (nextE l tk, bg + 1)).1), (buildE l (of x) (nextE l tk, bg + 1)).2)) := hid (by
  rw [HK.out.1, buildE_choice, HX.out]
  rfl)
 go_wp2
 refine bodyPost_ret (results_cell_row rfl _ _ rb 58 _ _ _ rfl (store_four H6.out.2.1) Try.underlying58 rfl (by kernel_rfl)) rfl ?_
 exact rbuild_done H6.out.2.1 H6.out.2.2.2.1 H6.out.2.2.2.2.1 (by have := HORD.out; omega) (by have := HORD.out; have := HTB.out; omega) HE8.out (by unfold VB maxLen; simp; omega) (vkids_one H6.out.2.2.2.2.2.2.2 H6.out.2.2.2.2.2.2.1 H6.out.2.2.2.2.2.1)
end
end Go.Proofs.Ytohfejpjjjaejaa
