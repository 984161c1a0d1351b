/-
  CouBack, part 44 of what it rests on: RPut.
-/
import Derived.Test.YtplipjijaaejlaaGreatS42
import Derived.Test.YtplipjijaaejlaaGreatS32
import Derived.Test.YtplipjijaaejlaaGreatS34
import Derived.Test.YtplipjijaaejlaaGreatS33
import Derived.Test.YtplipjijaaejlaaGreatS43
import Derived.LoopN
import Derived.Deep.LoopGhost
set_option linter.unusedVariables false
set_option linter.unusedSimpArgs false
set_option maxHeartbeats 64000000
namespace Go.Proofs.YtplipjijaaejlaaGreat
open Go.RowKit
open Go.Lib (hid)
section
attribute [local go_sem] run_store_float

/-- THE BYTES OF A VALUE, as the answer has them. -/
def RPutAt (t : KT) : Prop := ∀ (R : Nat → Prop) (v vv : Value) (w : World) (T : VT), goodE t → RShows R w t v → VShows R w T vv → isE t T = true → szV T ≤ 100000 →
  Calls Tryz.prog 11 #[v, vv] w fun e w' => ∃ pv, e = .returned pv ∧ Made pv (encE t T) w w'

theorem rencE_rec (k : Nat) (m : Int) (ns : List Txt) (n : Nat) (of : Nat → KT) (N : Int) (f : Nat) (s : Txt) (c : Nat) (ov : Nat → VT) (hk : k = 6) : encE (.mk k m ns n of) (.mk N f s c ov) = partsB (fun i => encE (of (if k = 5 then 0 else i)) (ov i)) c := by
  subst hk
  simp [encE, partsB]

theorem rencE_seq (k : Nat) (m : Int) (ns : List Txt) (n : Nat) (of : Nat → KT) (N : Int) (f : Nat) (s : Txt) (c : Nat) (ov : Nat → VT) (hk : k = 5) : encE (.mk k m ns n of) (.mk N f s c ov) = be2 c ++ partsB (fun i => encE (of (if k = 5 then 0 else i)) (ov i)) c := by
  subst hk
  simp [encE, partsB]

theorem rencE_cho (k : Nat) (m : Int) (ns : List Txt) (n : Nat) (of : Nat → KT) (N : Int) (f : Nat) (s : Txt) (ov : Nat → VT) (hk : k = 8) : encE (.mk k m ns n of) (.mk N f s 1 ov) = be2 N.toNat ++ encE (of N.toNat) (ov 0) := by
  subst hk
  simp [encE]

def sumP (z : Nat → Nat) (j : Nat) : Nat := ((List.range j).map z).sum
theorem sumP_succ (z : Nat → Nat) (j : Nat) : sumP z (j + 1) = sumP z j + z j := by
  unfold sumP; rw [List.range_succ, List.map_append, List.sum_append]; simp

theorem parts_len (g : Nat → List UInt8) (z : Nat → Nat) : ∀ j, (∀ i, i < j → (g i).length ≤ 64 * z i) → (partsB g j).length ≤ 64 * sumP z j
  | 0, _ => by simp [partsB, sumP]
  | j + 1, h => by
    rw [partsB_succ, sumP_succ, List.length_append]
    have := parts_len g z j (fun i hi => h i (by omega))
    have := h j (by omega)
    omega

theorem txt_len (s : List UInt8) : (txt s).length ≤ 3 + s.length := by
  unfold txt
  rw [List.length_append, List.length_append, be2_length]
  split <;> simp <;> omega

theorem enc_le (t : KT) : goodE t → ∀ T, isE t T = true → (encE t T).length ≤ 64 * szV T := by
  induction t with
  | nil => exact fun h => h.elim
  | mk k m ns n of ih =>
    rintro ⟨⟨hn12, hown⟩, hkids⟩ T hi
    obtain ⟨hk8, hmost, hone, hparts, hnames, hnone⟩ := own_facts hown
    cases T with
    | nil => cases hi
    | mk N f s d ov =>
    obtain ⟨i1, i2, i3, i4, i5, i6, i7, i8, i9, i10⟩ := (isE_iff k m ns n of N f s d ov).1 hi
    have hsz : szV (.mk N f s d ov) = 1 + sumP (fun i => szV (ov i)) d := by rw [szV]; rfl
    rw [hsz]
    rcases (by omega : (k = 0 ∨ k = 1 ∨ k = 7) ∨ k = 2 ∨ k = 3 ∨ k = 4 ∨ k = 5 ∨ k = 6 ∨ k = 8) with h | h | h | h | h | h | h
    · obtain rfl : d = 0 := i3 (by omega)
      have e1 : encE (.mk k m ns n of) (.mk N f s 0 ov) = be2 N.toNat := by rcases h with rfl | rfl | rfl <;> simp [encE]
      rw [e1, be2_length]; omega
    · subst h
      have e1 : encE (.mk 2 m ns n of) (.mk N f s d ov) = be4 (N % 4294967296).toNat := by simp [encE]
      rw [e1, be4_length]; omega
    · subst h
      have e1 : encE (.mk 3 m ns n of) (.mk N f s d ov) = be8 (Fl.canon f) := by simp [encE]
      rw [e1, be8_length]; omega
    · subst h
      have h60 := hmost (.inl rfl)
      have hsl := i6 rfl
      have e1 : encE (.mk 4 m ns n of) (.mk N f s d ov) = txt s := by simp [encE]
      rw [e1]
      have := txt_len s
      omega
    · subst h
      have hn1 := hone rfl
      rw [rencE_seq 5 m ns n of N f s d ov rfl, List.length_append, be2_length]
      have := parts_len (fun i => encE (of (if (5 : Nat) = 5 then 0 else i)) (ov i)) (fun i => szV (ov i)) d (fun i hi' => by
        simp only [if_pos]
        exact ih 0 (hkids 0 (by omega)) (ov i) (by simpa using i10 i hi'))
      omega
    · subst h
      have hdn := i8 rfl
      rw [rencE_rec 6 m ns n of N f s d ov rfl]
      have := parts_len (fun i => encE (of (if (6 : Nat) = 5 then 0 else i)) (ov i)) (fun i => szV (ov i)) d (fun i hi' => by
        simp only [show ((6 : Nat) = 5) = False from by simp, if_false]
        exact ih i (hkids i (by omega)) (ov i) (by simpa using i10 i hi'))
      omega
    · subst h
      obtain rfl : d = 1 := i9 rfl
      have hns := hnames (.inr (.inr rfl))
      have hnn := hparts (.inr rfl)
      simp [lowE, highE] at i4 i5
      rw [rencE_cho 8 m ns n of N f s ov rfl, List.length_append, be2_length]
      have := ih N.toNat (hkids _ (by omega)) (ov 0) (by simpa using i10 0 (by omega))
      have hs1 : sumP (fun i => szV (ov i)) 1 = szV (ov 0) := by simp [sumP]
      omega

theorem sumP_le (z : Nat → Nat) : ∀ c j, j < c → z j ≤ sumP z c
  | 0, j, h => by omega
  | c + 1, j, h => by
    rw [sumP_succ]
    by_cases e : j < c
    · have := sumP_le z c j e; omega
    · obtain rfl : j = c := by omega
      omega

theorem Made.later {v : Value} {l : List UInt8} {w wx wy : World} (h : Made v l w wx) (f : Fr (fun _ => False) wx wy) : Made v l w wy :=
  ⟨h.1.fr f (fun _ _ h => h), h.2.1.trans f (fun _ _ h => h), h.2.2⟩

/-- One part's bytes put behind: the bytes so far, the part's, both, both. -/
def RS (w0 : World) (pv0 : Value) (L P : List UInt8) : List Value → World → Prop
  | [], wx => Made pv0 L w0 wx
  | [v], wx => Made pv0 L w0 wx ∧ Sees wx v P
  | [_, u], wx => Made u (L ++ P) w0 wx
  | [_, _, x], wx => Made x (L ++ P) w0 wx
  | _, _ => False

theorem RS.fr {w0 wx : World} {pv0 : Value} {L P : List UInt8} : ∀ {c : List Value}, RS w0 pv0 L P c wx → Fr (fun _ => False) w0 wx
  | [], h => h.2.1
  | [_], h => h.1.2.1
  | [_, _], h => h.2.1
  | [_, _, _], h => h.2.1
  | _ :: _ :: _ :: _ :: _, h => h.elim

theorem slice_of_made {v : Value} {l : List UInt8} {w w' : World} (h : Made v l w w') : ∃ a c, v = .slice a l.length c := by
  obtain ⟨a, c, e, _⟩ := h.1.sees.shape
  exact ⟨a, c, e⟩

/-- Bytes put behind a row that was made. -/
theorem opWp_app7 {w wb wm : World} {o : Oper} {a : Act} {K : Act → World → Prop} {Q : Exit → Act → World → Prop} (s x : Operand)
    (ho : o.op = .call { callee := .builtin .append, args := #[s, x], argTypes := #[26, 26] })
    (v : Value) (hs : a.eval s = v) (xv : Value) (hx : a.eval x = xv) (L l : List UInt8) (h1 : Made v L wb wm) (hf : Fr (fun _ => False) wm w) (h2 : Sees w xv l) (hlen : L.length + l.length ≤ 10000000)
    (h : ∀ v' w', Made v' (L ++ l) wb w' → K (a.put o.dst v') w') : o.wp Tryz.prog a w K Q := by
  obtain ⟨i0, hi, hz0, hz1, hz2⟩ := info_parts Tryz.infoU8
  obtain ⟨ax, cx, e, _⟩ := h2.shape
  subst e
  have hown := h1.1.fr hf (fun _ _ h => h)
  obtain ⟨v', w', hr, k2, k3, k4⟩ := run_append_sep (P := Tryz.prog) w 0 26 26 o.type 5 i0 (.int .u8 0) 1 1 Tryz.underlying26 _ Tryz.underlying26 (.inr ⟨_, rfl⟩) hi hz0 hz1 hz2 rfl (by decide) v L.length (L.map bv) hown (.slice ax l.length cx) l.length (l.map bv) (fun w => lenOf_slice _ _ _ _) (by simp) h2.first (h2.drew).first (bv_one _) (by unfold maxLen; omega) (by omega) (Nat.zero_le _)
  unfold Oper.wp execOp
  simp only [ho, resolve, invoke, builtin, Sem.run_bind, Sem.run_pure, Result.andThen_ok, List.map_toArray, List.map_cons, List.map_nil, hs, hx, hr]
  exact h v' w' (Made.append h1 hf rfl k2 k3 k4)

theorem Made.before {v : Value} {l : List UInt8} {w w1 w2 : World} (f : Fr (fun _ => False) w w1) (h : Made v l w1 w2) : Made v l w w2 :=
  ⟨h.1, f.trans h.2.1 (fun _ _ h => h), fun k hk => Nat.le_trans f.size (h.2.2 k hk)⟩

set_option maxRecDepth 100000 in
theorem rput_k0 (k : Nat) (m : Int) (ns : List Txt) (n : Nat) (of : Nat → KT) (ih : ∀ i, RPutAt (of i)) (hk0 : k = 0) : RPutAt (.mk k m ns n of) := by
  intro R v vv w T hgood hrs hvs his hsz
  obtain ⟨⟨hn12, hown⟩, hkids⟩ := hgood
  obtain ⟨hk8, hmost, hone, hparts, hnames, hnone⟩ := own_facts hown
  obtain ⟨_, _, _, _, _, a', c', e1, rfl, hrb, hrk⟩ := rshows_open hrs
  cases e1
  obtain ⟨N, f, s, c, ov, va, cap, rfl, rfl, hVB, hVK⟩ := vshows_open hvs
  obtain ⟨hN0, hN1, hf64, hsl, hc5⟩ := hVB
  obtain ⟨i1, i2, i3, i4, i5, i6, i7, i8, i9, i10⟩ := (isE_iff k m ns n of N f s c ov).1 his
  have HI := Lib.hid i10
  have HSZ := Lib.hid hsz
  obtain ⟨nn, hnn⟩ : ∃ nn, ns.length = nn := ⟨_, rfl⟩
  rw [hnn] at hrb ⊢
  have HK0 := Lib.hid (And.intro hk0 (And.intro hmost (And.intro hone (And.intro hparts (And.intro hnames (And.intro hnone hnn))))))
  have HKIDS := Lib.hid hkids
  have HRK := Lib.hid hrk
  have HVK := Lib.hid hVK
  have hnn1 : nn ≤ 1000 := hrb.2.1
  obtain ⟨cf, hcf⟩ : ∃ cf, Fl.canon f = cf := ⟨_, rfl⟩
  have HCF := Lib.hid hcf
  have hlen : ((⟨s.toArray⟩ : ByteArray).size : Int) = (s.length : Int) := by simp [ByteArray.size]
  unfold sv
  obtain ⟨kz, hkz⟩ : ∃ kz : Int, (k : Int) = kz := ⟨_, rfl⟩
  rw [hkz]
  have e0 : (kz == 0) = true := by simp; omega
  have e1 : (kz == 1) = false := by simp; omega
  have e2 : (kz == 2) = false := by simp; omega
  have e3 : (kz == 3) = false := by simp; omega
  have e4 : (kz == 4) = false := by simp; omega
  have e5 : (kz == 5) = false := by simp; omega
  have e6 : (kz == 6) = false := by simp; omega
  have e7 : (kz == 7) = false := by simp; omega
  have e8 : (kz == 8) = false := by simp; omega
  obtain ⟨w1, hw1⟩ : ∃ w1, w1 = (w.alloc (.cells #[.int .i64 kz, .int .i64 m, .int .i64 (nn : Nat), .slice a' n c'] 48)).alloc (.cells #[.int .i64 N, .float .f64 f, .string ⟨s.toArray⟩, .slice va c cap] 52) := ⟨_, rfl⟩
  have f1 : Fr (fun _ => False) w w1 := by rw [hw1]; exact ((Fr.refl _ _).alloc _).alloc _
  have q1 : w1.heap[w.heap.size]? = some (.cells #[.int .i64 kz, .int .i64 m, .int .i64 (nn : Nat), .slice a' n c'] 48 (0, 0)) := by rw [hw1]; exact heap_alloc_first _ _ _
  have v1 : w1.heap[w.heap.size + 1]? = some (.cells #[.int .i64 N, .float .f64 f, .string ⟨s.toArray⟩, .slice va c cap] 52 (0, 0)) := by rw [hw1]; exact heap_alloc_two _ _ _
  have hN : 0 ≤ N ∧ N ≤ 65535 := by
    subst hk0
    simp [lowE, highE] at i4 i5
    skip
    omega
  obtain rfl : c = 0 := i3 (by omega)
  have HE : Hid (encE (.mk k m ns n of) (.mk N f s 0 ov) = be2 N.toNat) := Lib.hid (by rw [hk0]; simp [encE])
  clear hrs hvs hk0 hmost hone hparts hnames hnone hkids hrk hVK hcf hrb hown hnn hkz his hsz i10 i1 i2 i3 i4 i5 i6 i7 i8 i9
  go_enter Tryz.func11, Tryz.ntmps11
  go_upto_region 1 with fail
  rw [← hw1]
  obtain ⟨vb, hvb⟩ : ∃ vb, w.heap.size + 1 = vb := ⟨_, rfl⟩
  rw [hvb] at v1 ⊢
  obtain ⟨tb, htb⟩ : ∃ tb, w.heap.size = tb := ⟨_, rfl⟩
  rw [htb] at q1 ⊢
  obtain ⟨c0, c1, c2, c3⟩ := cell_of_four q1
  obtain ⟨d0, d1, d2, d3⟩ := cell_of_four v1
  have H1 := Lib.hid (And.intro f1 (And.intro q1 v1))
  clear hw1 f1 q1 v1 hvb htb
  go_wp2_with fail
  refine (refword_any N hN.1 hN.2 w1).mono ?_
  rintro er w2 ⟨pv, rfl, hm⟩
  have HM := Lib.hid (Made.before H1.out.1 hm)
  have HC := Lib.hid (And.intro (box_kept H1.out.2.1 hm.2.1 (fun h => h)) (box_kept H1.out.2.2 hm.2.1 (fun h => h)))
  clear hm c0 c1 c2 c3 d0 d1 d2 d3
  obtain ⟨c0, c1, c2, c3⟩ := cell_of_four HC.out.1
  dsimp only
  go_wp2_with fail
  go_ret
  rw [HE.out]
  exact ⟨_, rfl, HM.out⟩

set_option maxRecDepth 100000 in
theorem rput_k1 (k : Nat) (m : Int) (ns : List Txt) (n : Nat) (of : Nat → KT) (ih : ∀ i, RPutAt (of i)) (hk0 : k = 1) : RPutAt (.mk k m ns n of) := by
  intro R v vv w T hgood hrs hvs his hsz
  obtain ⟨⟨hn12, hown⟩, hkids⟩ := hgood
  obtain ⟨hk8, hmost, hone, hparts, hnames, hnone⟩ := own_facts hown
  obtain ⟨_, _, _, _, _, a', c', e1, rfl, hrb, hrk⟩ := rshows_open hrs
  cases e1
  obtain ⟨N, f, s, c, ov, va, cap, rfl, rfl, hVB, hVK⟩ := vshows_open hvs
  obtain ⟨hN0, hN1, hf64, hsl, hc5⟩ := hVB
  obtain ⟨i1, i2, i3, i4, i5, i6, i7, i8, i9, i10⟩ := (isE_iff k m ns n of N f s c ov).1 his
  have HI := Lib.hid i10
  have HSZ := Lib.hid hsz
  obtain ⟨nn, hnn⟩ : ∃ nn, ns.length = nn := ⟨_, rfl⟩
  rw [hnn] at hrb ⊢
  have HK0 := Lib.hid (And.intro hk0 (And.intro hmost (And.intro hone (And.intro hparts (And.intro hnames (And.intro hnone hnn))))))
  have HKIDS := Lib.hid hkids
  have HRK := Lib.hid hrk
  have HVK := Lib.hid hVK
  have hnn1 : nn ≤ 1000 := hrb.2.1
  obtain ⟨cf, hcf⟩ : ∃ cf, Fl.canon f = cf := ⟨_, rfl⟩
  have HCF := Lib.hid hcf
  have hlen : ((⟨s.toArray⟩ : ByteArray).size : Int) = (s.length : Int) := by simp [ByteArray.size]
  unfold sv
  obtain ⟨kz, hkz⟩ : ∃ kz : Int, (k : Int) = kz := ⟨_, rfl⟩
  rw [hkz]
  have e0 : (kz == 0) = false := by simp; omega
  have e1 : (kz == 1) = true := by simp; omega
  have e2 : (kz == 2) = false := by simp; omega
  have e3 : (kz == 3) = false := by simp; omega
  have e4 : (kz == 4) = false := by simp; omega
  have e5 : (kz == 5) = false := by simp; omega
  have e6 : (kz == 6) = false := by simp; omega
  have e7 : (kz == 7) = false := by simp; omega
  have e8 : (kz == 8) = false := by simp; omega
  obtain ⟨w1, hw1⟩ : ∃ w1, w1 = (w.alloc (.cells #[.int .i64 kz, .int .i64 m, .int .i64 (nn : Nat), .slice a' n c'] 48)).alloc (.cells #[.int .i64 N, .float .f64 f, .string ⟨s.toArray⟩, .slice va c cap] 52) := ⟨_, rfl⟩
  have f1 : Fr (fun _ => False) w w1 := by rw [hw1]; exact ((Fr.refl _ _).alloc _).alloc _
  have q1 : w1.heap[w.heap.size]? = some (.cells #[.int .i64 kz, .int .i64 m, .int .i64 (nn : Nat), .slice a' n c'] 48 (0, 0)) := by rw [hw1]; exact heap_alloc_first _ _ _
  have v1 : w1.heap[w.heap.size + 1]? = some (.cells #[.int .i64 N, .float .f64 f, .string ⟨s.toArray⟩, .slice va c cap] 52 (0, 0)) := by rw [hw1]; exact heap_alloc_two _ _ _
  have hN : 0 ≤ N ∧ N ≤ 65535 := by
    subst hk0
    simp [lowE, highE] at i4 i5
    skip
    omega
  obtain rfl : c = 0 := i3 (by omega)
  have HE : Hid (encE (.mk k m ns n of) (.mk N f s 0 ov) = be2 N.toNat) := Lib.hid (by rw [hk0]; simp [encE])
  clear hrs hvs hk0 hmost hone hparts hnames hnone hkids hrk hVK hcf hrb hown hnn hkz his hsz i10 i1 i2 i3 i4 i5 i6 i7 i8 i9
  go_enter Tryz.func11, Tryz.ntmps11
  go_upto_region 1 with fail
  rw [← hw1]
  obtain ⟨vb, hvb⟩ : ∃ vb, w.heap.size + 1 = vb := ⟨_, rfl⟩
  rw [hvb] at v1 ⊢
  obtain ⟨tb, htb⟩ : ∃ tb, w.heap.size = tb := ⟨_, rfl⟩
  rw [htb] at q1 ⊢
  obtain ⟨c0, c1, c2, c3⟩ := cell_of_four q1
  obtain ⟨d0, d1, d2, d3⟩ := cell_of_four v1
  have H1 := Lib.hid (And.intro f1 (And.intro q1 v1))
  clear hw1 f1 q1 v1 hvb htb
  go_wp2_with fail
  refine (refword_any N hN.1 hN.2 w1).mono ?_
  rintro er w2 ⟨pv, rfl, hm⟩
  have HM := Lib.hid (Made.before H1.out.1 hm)
  have HC := Lib.hid (And.intro (box_kept H1.out.2.1 hm.2.1 (fun h => h)) (box_kept H1.out.2.2 hm.2.1 (fun h => h)))
  clear hm c0 c1 c2 c3 d0 d1 d2 d3
  obtain ⟨c0, c1, c2, c3⟩ := cell_of_four HC.out.1
  dsimp only
  go_wp2_with fail
  go_ret
  rw [HE.out]
  exact ⟨_, rfl, HM.out⟩

set_option maxRecDepth 100000 in
theorem rput_k7 (k : Nat) (m : Int) (ns : List Txt) (n : Nat) (of : Nat → KT) (ih : ∀ i, RPutAt (of i)) (hk0 : k = 7) : RPutAt (.mk k m ns n of) := by
  intro R v vv w T hgood hrs hvs his hsz
  obtain ⟨⟨hn12, hown⟩, hkids⟩ := hgood
  obtain ⟨hk8, hmost, hone, hparts, hnames, hnone⟩ := own_facts hown
  obtain ⟨_, _, _, _, _, a', c', e1, rfl, hrb, hrk⟩ := rshows_open hrs
  cases e1
  obtain ⟨N, f, s, c, ov, va, cap, rfl, rfl, hVB, hVK⟩ := vshows_open hvs
  obtain ⟨hN0, hN1, hf64, hsl, hc5⟩ := hVB
  obtain ⟨i1, i2, i3, i4, i5, i6, i7, i8, i9, i10⟩ := (isE_iff k m ns n of N f s c ov).1 his
  have HI := Lib.hid i10
  have HSZ := Lib.hid hsz
  obtain ⟨nn, hnn⟩ : ∃ nn, ns.length = nn := ⟨_, rfl⟩
  rw [hnn] at hrb ⊢
  have HK0 := Lib.hid (And.intro hk0 (And.intro hmost (And.intro hone (And.intro hparts (And.intro hnames (And.intro hnone hnn))))))
  have HKIDS := Lib.hid hkids
  have HRK := Lib.hid hrk
  have HVK := Lib.hid hVK
  have hnn1 : nn ≤ 1000 := hrb.2.1
  obtain ⟨cf, hcf⟩ : ∃ cf, Fl.canon f = cf := ⟨_, rfl⟩
  have HCF := Lib.hid hcf
  have hlen : ((⟨s.toArray⟩ : ByteArray).size : Int) = (s.length : Int) := by simp [ByteArray.size]
  unfold sv
  obtain ⟨kz, hkz⟩ : ∃ kz : Int, (k : Int) = kz := ⟨_, rfl⟩
  rw [hkz]
  have e0 : (kz == 0) = false := by simp; omega
  have e1 : (kz == 1) = false := by simp; omega
  have e2 : (kz == 2) = false := by simp; omega
  have e3 : (kz == 3) = false := by simp; omega
  have e4 : (kz == 4) = false := by simp; omega
  have e5 : (kz == 5) = false := by simp; omega
  have e6 : (kz == 6) = false := by simp; omega
  have e7 : (kz == 7) = true := by simp; omega
  have e8 : (kz == 8) = false := by simp; omega
  obtain ⟨w1, hw1⟩ : ∃ w1, w1 = (w.alloc (.cells #[.int .i64 kz, .int .i64 m, .int .i64 (nn : Nat), .slice a' n c'] 48)).alloc (.cells #[.int .i64 N, .float .f64 f, .string ⟨s.toArray⟩, .slice va c cap] 52) := ⟨_, rfl⟩
  have f1 : Fr (fun _ => False) w w1 := by rw [hw1]; exact ((Fr.refl _ _).alloc _).alloc _
  have q1 : w1.heap[w.heap.size]? = some (.cells #[.int .i64 kz, .int .i64 m, .int .i64 (nn : Nat), .slice a' n c'] 48 (0, 0)) := by rw [hw1]; exact heap_alloc_first _ _ _
  have v1 : w1.heap[w.heap.size + 1]? = some (.cells #[.int .i64 N, .float .f64 f, .string ⟨s.toArray⟩, .slice va c cap] 52 (0, 0)) := by rw [hw1]; exact heap_alloc_two _ _ _
  have hN : 0 ≤ N ∧ N ≤ 65535 := by
    subst hk0
    simp [lowE, highE] at i4 i5
    have := hnames (.inr (.inl rfl))
    omega
  obtain rfl : c = 0 := i3 (by omega)
  have HE : Hid (encE (.mk k m ns n of) (.mk N f s 0 ov) = be2 N.toNat) := Lib.hid (by rw [hk0]; simp [encE])
  clear hrs hvs hk0 hmost hone hparts hnames hnone hkids hrk hVK hcf hrb hown hnn hkz his hsz i10 i1 i2 i3 i4 i5 i6 i7 i8 i9
  go_enter Tryz.func11, Tryz.ntmps11
  go_upto_region 1 with fail
  rw [← hw1]
  obtain ⟨vb, hvb⟩ : ∃ vb, w.heap.size + 1 = vb := ⟨_, rfl⟩
  rw [hvb] at v1 ⊢
  obtain ⟨tb, htb⟩ : ∃ tb, w.heap.size = tb := ⟨_, rfl⟩
  rw [htb] at q1 ⊢
  obtain ⟨c0, c1, c2, c3⟩ := cell_of_four q1
  obtain ⟨d0, d1, d2, d3⟩ := cell_of_four v1
  have H1 := Lib.hid (And.intro f1 (And.intro q1 v1))
  clear hw1 f1 q1 v1 hvb htb
  go_wp2_with fail
  refine (refword_any N hN.1 hN.2 w1).mono ?_
  rintro er w2 ⟨pv, rfl, hm⟩
  have HM := Lib.hid (Made.before H1.out.1 hm)
  have HC := Lib.hid (And.intro (box_kept H1.out.2.1 hm.2.1 (fun h => h)) (box_kept H1.out.2.2 hm.2.1 (fun h => h)))
  clear hm c0 c1 c2 c3 d0 d1 d2 d3
  obtain ⟨c0, c1, c2, c3⟩ := cell_of_four HC.out.1
  dsimp only
  go_wp2_with fail
  go_ret
  rw [HE.out]
  exact ⟨_, rfl, HM.out⟩

set_option maxRecDepth 100000 in
theorem rput_k2 (k : Nat) (m : Int) (ns : List Txt) (n : Nat) (of : Nat → KT) (ih : ∀ i, RPutAt (of i)) (hk0 : k = 2) : RPutAt (.mk k m ns n of) := by
  intro R v vv w T hgood hrs hvs his hsz
  obtain ⟨⟨hn12, hown⟩, hkids⟩ := hgood
  obtain ⟨hk8, hmost, hone, hparts, hnames, hnone⟩ := own_facts hown
  obtain ⟨_, _, _, _, _, a', c', e1, rfl, hrb, hrk⟩ := rshows_open hrs
  cases e1
  obtain ⟨N, f, s, c, ov, va, cap, rfl, rfl, hVB, hVK⟩ := vshows_open hvs
  obtain ⟨hN0, hN1, hf64, hsl, hc5⟩ := hVB
  obtain ⟨i1, i2, i3, i4, i5, i6, i7, i8, i9, i10⟩ := (isE_iff k m ns n of N f s c ov).1 his
  have HI := Lib.hid i10
  have HSZ := Lib.hid hsz
  obtain ⟨nn, hnn⟩ : ∃ nn, ns.length = nn := ⟨_, rfl⟩
  rw [hnn] at hrb ⊢
  have HK0 := Lib.hid (And.intro hk0 (And.intro hmost (And.intro hone (And.intro hparts (And.intro hnames (And.intro hnone hnn))))))
  have HKIDS := Lib.hid hkids
  have HRK := Lib.hid hrk
  have HVK := Lib.hid hVK
  have hnn1 : nn ≤ 1000 := hrb.2.1
  obtain ⟨cf, hcf⟩ : ∃ cf, Fl.canon f = cf := ⟨_, rfl⟩
  have HCF := Lib.hid hcf
  have hlen : ((⟨s.toArray⟩ : ByteArray).size : Int) = (s.length : Int) := by simp [ByteArray.size]
  unfold sv
  obtain ⟨kz, hkz⟩ : ∃ kz : Int, (k : Int) = kz := ⟨_, rfl⟩
  rw [hkz]
  have e0 : (kz == 0) = false := by simp; omega
  have e1 : (kz == 1) = false := by simp; omega
  have e2 : (kz == 2) = true := by simp; omega
  have e3 : (kz == 3) = false := by simp; omega
  have e4 : (kz == 4) = false := by simp; omega
  have e5 : (kz == 5) = false := by simp; omega
  have e6 : (kz == 6) = false := by simp; omega
  have e7 : (kz == 7) = false := by simp; omega
  have e8 : (kz == 8) = false := by simp; omega
  obtain ⟨w1, hw1⟩ : ∃ w1, w1 = (w.alloc (.cells #[.int .i64 kz, .int .i64 m, .int .i64 (nn : Nat), .slice a' n c'] 48)).alloc (.cells #[.int .i64 N, .float .f64 f, .string ⟨s.toArray⟩, .slice va c cap] 52) := ⟨_, rfl⟩
  have f1 : Fr (fun _ => False) w w1 := by rw [hw1]; exact ((Fr.refl _ _).alloc _).alloc _
  have q1 : w1.heap[w.heap.size]? = some (.cells #[.int .i64 kz, .int .i64 m, .int .i64 (nn : Nat), .slice a' n c'] 48 (0, 0)) := by rw [hw1]; exact heap_alloc_first _ _ _
  have v1 : w1.heap[w.heap.size + 1]? = some (.cells #[.int .i64 N, .float .f64 f, .string ⟨s.toArray⟩, .slice va c cap] 52 (0, 0)) := by rw [hw1]; exact heap_alloc_two _ _ _
  obtain rfl : c = 0 := i3 (by omega)
  have HE : Hid (encE (.mk k m ns n of) (.mk N f s 0 ov) = be4 (N % 4294967296).toNat) := Lib.hid (by rw [hk0]; simp [encE])
  obtain ⟨M, hM, hM0, hM1⟩ : ∃ M : Int, N % 4294967296 = M ∧ 0 ≤ M ∧ M ≤ 4294967295 := ⟨_, rfl, by omega, by omega⟩
  rw [hM] at HE
  clear hrs hvs hk0 hmost hone hparts hnames hnone hkids hrk hVK hcf hrb hown hnn hkz his hsz i10 i1 i2 i3 i4 i5 i6 i7 i8 i9
  go_enter Tryz.func11, Tryz.ntmps11
  go_upto_region 1 with fail
  rw [← hw1]
  obtain ⟨vb, hvb⟩ : ∃ vb, w.heap.size + 1 = vb := ⟨_, rfl⟩
  rw [hvb] at v1 ⊢
  obtain ⟨tb, htb⟩ : ∃ tb, w.heap.size = tb := ⟨_, rfl⟩
  rw [htb] at q1 ⊢
  obtain ⟨c0, c1, c2, c3⟩ := cell_of_four q1
  obtain ⟨d0, d1, d2, d3⟩ := cell_of_four v1
  have H1 := Lib.hid (And.intro f1 (And.intro q1 v1))
  clear hw1 f1 q1 v1 hvb htb
  go_wp2_with fail
  refine (reflong_any M hM0 hM1 w1).mono ?_
  rintro er w2 ⟨pv, rfl, hm⟩
  have HM := Lib.hid (Made.before H1.out.1 hm)
  clear hm c0 c1 c2 c3 d0 d1 d2 d3
  dsimp only
  go_wp2_with fail
  go_ret
  rw [HE.out]
  exact ⟨_, rfl, HM.out⟩

set_option maxRecDepth 100000 in
theorem rput_k3 (k : Nat) (m : Int) (ns : List Txt) (n : Nat) (of : Nat → KT) (ih : ∀ i, RPutAt (of i)) (hk0 : k = 3) : RPutAt (.mk k m ns n of) := by
  intro R v vv w T hgood hrs hvs his hsz
  obtain ⟨⟨hn12, hown⟩, hkids⟩ := hgood
  obtain ⟨hk8, hmost, hone, hparts, hnames, hnone⟩ := own_facts hown
  obtain ⟨_, _, _, _, _, a', c', e1, rfl, hrb, hrk⟩ := rshows_open hrs
  cases e1
  obtain ⟨N, f, s, c, ov, va, cap, rfl, rfl, hVB, hVK⟩ := vshows_open hvs
  obtain ⟨hN0, hN1, hf64, hsl, hc5⟩ := hVB
  obtain ⟨i1, i2, i3, i4, i5, i6, i7, i8, i9, i10⟩ := (isE_iff k m ns n of N f s c ov).1 his
  have HI := Lib.hid i10
  have HSZ := Lib.hid hsz
  obtain ⟨nn, hnn⟩ : ∃ nn, ns.length = nn := ⟨_, rfl⟩
  rw [hnn] at hrb ⊢
  have HK0 := Lib.hid (And.intro hk0 (And.intro hmost (And.intro hone (And.intro hparts (And.intro hnames (And.intro hnone hnn))))))
  have HKIDS := Lib.hid hkids
  have HRK := Lib.hid hrk
  have HVK := Lib.hid hVK
  have hnn1 : nn ≤ 1000 := hrb.2.1
  obtain ⟨cf, hcf⟩ : ∃ cf, Fl.canon f = cf := ⟨_, rfl⟩
  have HCF := Lib.hid hcf
  have hlen : ((⟨s.toArray⟩ : ByteArray).size : Int) = (s.length : Int) := by simp [ByteArray.size]
  unfold sv
  obtain ⟨kz, hkz⟩ : ∃ kz : Int, (k : Int) = kz := ⟨_, rfl⟩
  rw [hkz]
  have e0 : (kz == 0) = false := by simp; omega
  have e1 : (kz == 1) = false := by simp; omega
  have e2 : (kz == 2) = false := by simp; omega
  have e3 : (kz == 3) = true := by simp; omega
  have e4 : (kz == 4) = false := by simp; omega
  have e5 : (kz == 5) = false := by simp; omega
  have e6 : (kz == 6) = false := by simp; omega
  have e7 : (kz == 7) = false := by simp; omega
  have e8 : (kz == 8) = false := by simp; omega
  obtain ⟨w1, hw1⟩ : ∃ w1, w1 = (w.alloc (.cells #[.int .i64 kz, .int .i64 m, .int .i64 (nn : Nat), .slice a' n c'] 48)).alloc (.cells #[.int .i64 N, .float .f64 f, .string ⟨s.toArray⟩, .slice va c cap] 52) := ⟨_, rfl⟩
  have f1 : Fr (fun _ => False) w w1 := by rw [hw1]; exact ((Fr.refl _ _).alloc _).alloc _
  have q1 : w1.heap[w.heap.size]? = some (.cells #[.int .i64 kz, .int .i64 m, .int .i64 (nn : Nat), .slice a' n c'] 48 (0, 0)) := by rw [hw1]; exact heap_alloc_first _ _ _
  have v1 : w1.heap[w.heap.size + 1]? = some (.cells #[.int .i64 N, .float .f64 f, .string ⟨s.toArray⟩, .slice va c cap] 52 (0, 0)) := by rw [hw1]; exact heap_alloc_two _ _ _
  obtain rfl : c = 0 := i3 (by omega)
  have HE : Hid (encE (.mk k m ns n of) (.mk N f s 0 ov) = be8 cf) := Lib.hid (by rw [hk0, ← hcf]; simp [encE])
  have HBITS := Lib.hid (fun (wx : World) => (hcf ▸ refbits_any f wx : Calls Tryz.prog 28 #[.float .f64 f] wx fun e w' => e = .returned (.int .u64 cf) ∧ wx = w'))
  have HLT := Lib.hid (show cf < 18446744073709551616 from hcf ▸ Fl.canon_lt hf64)
  clear hrs hvs hk0 hmost hone hparts hnames hnone hkids hrk hVK hcf hrb hown hnn hkz his hsz i10 i1 i2 i3 i4 i5 i6 i7 i8 i9
  go_enter Tryz.func11, Tryz.ntmps11
  go_upto_region 1 with fail
  rw [← hw1]
  obtain ⟨vb, hvb⟩ : ∃ vb, w.heap.size + 1 = vb := ⟨_, rfl⟩
  rw [hvb] at v1 ⊢
  obtain ⟨tb, htb⟩ : ∃ tb, w.heap.size = tb := ⟨_, rfl⟩
  rw [htb] at q1 ⊢
  obtain ⟨c0, c1, c2, c3⟩ := cell_of_four q1
  obtain ⟨d0, d1, d2, d3⟩ := cell_of_four v1
  have H1 := Lib.hid (And.intro f1 (And.intro q1 v1))
  clear hw1 f1 q1 v1 hvb htb
  go_wp2_with fail
  refine (HBITS.out _).mono ?_
  rintro er wb ⟨rfl, rfl⟩
  dsimp only
  go_wp2_with fail
  refine (refquad_any (cf : Int) (by omega) (by have := HLT.out; omega) w1).mono ?_
  rintro er w2 ⟨pv, rfl, hm⟩
  rw [Int.toNat_natCast] at hm
  have HM := Lib.hid (Made.before H1.out.1 hm)
  clear hm c0 c1 c2 c3 d0 d1 d2 d3
  dsimp only
  go_wp2_with fail
  go_ret
  rw [HE.out]
  exact ⟨_, rfl, HM.out⟩

set_option maxRecDepth 100000 in
theorem rput_k4 (k : Nat) (m : Int) (ns : List Txt) (n : Nat) (of : Nat → KT) (ih : ∀ i, RPutAt (of i)) (hk0 : k = 4) : RPutAt (.mk k m ns n of) := by
  intro R v vv w T hgood hrs hvs his hsz
  obtain ⟨⟨hn12, hown⟩, hkids⟩ := hgood
  obtain ⟨hk8, hmost, hone, hparts, hnames, hnone⟩ := own_facts hown
  obtain ⟨_, _, _, _, _, a', c', e1, rfl, hrb, hrk⟩ := rshows_open hrs
  cases e1
  obtain ⟨N, f, s, c, ov, va, cap, rfl, rfl, hVB, hVK⟩ := vshows_open hvs
  obtain ⟨hN0, hN1, hf64, hsl, hc5⟩ := hVB
  obtain ⟨i1, i2, i3, i4, i5, i6, i7, i8, i9, i10⟩ := (isE_iff k m ns n of N f s c ov).1 his
  have HI := Lib.hid i10
  have HSZ := Lib.hid hsz
  obtain ⟨nn, hnn⟩ : ∃ nn, ns.length = nn := ⟨_, rfl⟩
  rw [hnn] at hrb ⊢
  have HK0 := Lib.hid (And.intro hk0 (And.intro hmost (And.intro hone (And.intro hparts (And.intro hnames (And.intro hnone hnn))))))
  have HKIDS := Lib.hid hkids
  have HRK := Lib.hid hrk
  have HVK := Lib.hid hVK
  have hnn1 : nn ≤ 1000 := hrb.2.1
  obtain ⟨cf, hcf⟩ : ∃ cf, Fl.canon f = cf := ⟨_, rfl⟩
  have HCF := Lib.hid hcf
  have hlen : ((⟨s.toArray⟩ : ByteArray).size : Int) = (s.length : Int) := by simp [ByteArray.size]
  unfold sv
  obtain ⟨kz, hkz⟩ : ∃ kz : Int, (k : Int) = kz := ⟨_, rfl⟩
  rw [hkz]
  have e0 : (kz == 0) = false := by simp; omega
  have e1 : (kz == 1) = false := by simp; omega
  have e2 : (kz == 2) = false := by simp; omega
  have e3 : (kz == 3) = false := by simp; omega
  have e4 : (kz == 4) = true := by simp; omega
  have e5 : (kz == 5) = false := by simp; omega
  have e6 : (kz == 6) = false := by simp; omega
  have e7 : (kz == 7) = false := by simp; omega
  have e8 : (kz == 8) = false := by simp; omega
  obtain ⟨w1, hw1⟩ : ∃ w1, w1 = (w.alloc (.cells #[.int .i64 kz, .int .i64 m, .int .i64 (nn : Nat), .slice a' n c'] 48)).alloc (.cells #[.int .i64 N, .float .f64 f, .string ⟨s.toArray⟩, .slice va c cap] 52) := ⟨_, rfl⟩
  have f1 : Fr (fun _ => False) w w1 := by rw [hw1]; exact ((Fr.refl _ _).alloc _).alloc _
  have q1 : w1.heap[w.heap.size]? = some (.cells #[.int .i64 kz, .int .i64 m, .int .i64 (nn : Nat), .slice a' n c'] 48 (0, 0)) := by rw [hw1]; exact heap_alloc_first _ _ _
  have v1 : w1.heap[w.heap.size + 1]? = some (.cells #[.int .i64 N, .float .f64 f, .string ⟨s.toArray⟩, .slice va c cap] 52 (0, 0)) := by rw [hw1]; exact heap_alloc_two _ _ _
  obtain rfl : c = 0 := i3 (by omega)
  have HE : Hid (encE (.mk k m ns n of) (.mk N f s 0 ov) = txt s) := Lib.hid (by rw [hk0]; simp [encE])
  have HSL := Lib.hid (show s.length ≤ 60 from by have := i6 hk0; have := hmost (.inl hk0); omega)
  clear hrs hvs hk0 hmost hone hparts hnames hnone hkids hrk hVK hcf hrb hown hnn hkz his hsz i10 i1 i2 i3 i4 i5 i6 i7 i8 i9
  go_enter Tryz.func11, Tryz.ntmps11
  go_upto_region 1 with fail
  rw [← hw1]
  obtain ⟨vb, hvb⟩ : ∃ vb, w.heap.size + 1 = vb := ⟨_, rfl⟩
  rw [hvb] at v1 ⊢
  obtain ⟨tb, htb⟩ : ∃ tb, w.heap.size = tb := ⟨_, rfl⟩
  rw [htb] at q1 ⊢
  obtain ⟨c0, c1, c2, c3⟩ := cell_of_four q1
  obtain ⟨d0, d1, d2, d3⟩ := cell_of_four v1
  have H1 := Lib.hid (And.intro f1 (And.intro q1 v1))
  clear hw1 f1 q1 v1 hvb htb
  go_wp2_with fail
  refine (reftext_any ⟨s.toArray⟩ (by have := HSL.out; have := hlen; omega) w1).mono ?_
  rintro er w2 ⟨pv, rfl, hm⟩
  have HM := Lib.hid (Made.before H1.out.1 hm)
  clear hm c0 c1 c2 c3 d0 d1 d2 d3
  dsimp only
  go_wp2_with fail
  go_ret
  rw [HE.out]
  exact ⟨_, rfl, HM.out⟩

set_option maxRecDepth 100000 in
theorem rput_k5 (k : Nat) (m : Int) (ns : List Txt) (n : Nat) (of : Nat → KT) (ih : ∀ i, RPutAt (of i)) (hk0 : k = 5) : RPutAt (.mk k m ns n of) := by
  intro R v vv w T hgood hrs hvs his hsz
  have HB := Lib.hid (Nat.le_trans (enc_le _ hgood _ his) (Nat.mul_le_mul_left 64 hsz))
  obtain ⟨⟨hn12, hown⟩, hkids⟩ := hgood
  obtain ⟨hk8, hmost, hone, hparts, hnames, hnone⟩ := own_facts hown
  obtain ⟨_, _, _, _, _, a', c', e1, rfl, hrb, hrk⟩ := rshows_open hrs
  cases e1
  obtain ⟨N, f, s, c, ov, va, cap, rfl, rfl, hVB, hVK⟩ := vshows_open hvs
  obtain ⟨hN0, hN1, hf64, hsl, hc5⟩ := hVB
  obtain ⟨i1, i2, i3, i4, i5, i6, i7, i8, i9, i10⟩ := (isE_iff k m ns n of N f s c ov).1 his
  have HI := Lib.hid i10
  have HSZ := Lib.hid hsz
  obtain ⟨nn, hnn⟩ : ∃ nn, ns.length = nn := ⟨_, rfl⟩
  rw [hnn] at hrb ⊢
  have HK0 := Lib.hid (And.intro hk0 (And.intro hmost (And.intro hone (And.intro hparts (And.intro hnames (And.intro hnone hnn))))))
  have HKIDS := Lib.hid hkids
  have HRK := Lib.hid hrk
  have HVK := Lib.hid hVK
  have hnn1 : nn ≤ 1000 := hrb.2.1
  obtain ⟨cf, hcf⟩ : ∃ cf, Fl.canon f = cf := ⟨_, rfl⟩
  have HCF := Lib.hid hcf
  have hlen : ((⟨s.toArray⟩ : ByteArray).size : Int) = (s.length : Int) := by simp [ByteArray.size]
  unfold sv
  obtain ⟨kz, hkz⟩ : ∃ kz : Int, (k : Int) = kz := ⟨_, rfl⟩
  rw [hkz]
  have e0 : (kz == 0) = false := by simp; omega
  have e1 : (kz == 1) = false := by simp; omega
  have e2 : (kz == 2) = false := by simp; omega
  have e3 : (kz == 3) = false := by simp; omega
  have e4 : (kz == 4) = false := by simp; omega
  have e5 : (kz == 5) = true := by simp; omega
  have e6 : (kz == 6) = false := by simp; omega
  have e7 : (kz == 7) = false := by simp; omega
  have e8 : (kz == 8) = false := by simp; omega
  obtain ⟨w1, hw1⟩ : ∃ w1, w1 = (w.alloc (.cells #[.int .i64 kz, .int .i64 m, .int .i64 (nn : Nat), .slice a' n c'] 48)).alloc (.cells #[.int .i64 N, .float .f64 f, .string ⟨s.toArray⟩, .slice va c cap] 52) := ⟨_, rfl⟩
  have f1 : Fr (fun _ => False) w w1 := by rw [hw1]; exact ((Fr.refl _ _).alloc _).alloc _
  have q1 : w1.heap[w.heap.size]? = some (.cells #[.int .i64 kz, .int .i64 m, .int .i64 (nn : Nat), .slice a' n c'] 48 (0, 0)) := by rw [hw1]; exact heap_alloc_first _ _ _
  have v1 : w1.heap[w.heap.size + 1]? = some (.cells #[.int .i64 N, .float .f64 f, .string ⟨s.toArray⟩, .slice va c cap] 52 (0, 0)) := by rw [hw1]; exact heap_alloc_two _ _ _
  obtain ⟨E, hE⟩ : ∃ E : Nat → List UInt8, E = fun i => encE (of 0) (ov i) := ⟨_, rfl⟩
  obtain ⟨PRE, hPRE⟩ : ∃ PRE, PRE = be2 c := ⟨_, rfl⟩
  have HE : Hid (encE (.mk k m ns n of) (.mk N f s c ov) = PRE ++ partsB E c) := Lib.hid (by rw [rencE_seq k m ns n of N f s c ov hk0, hE, hPRE]; simp only [hk0, if_pos])
  have HEE := Lib.hid hE
  have HPR := Lib.hid hPRE
  have HI10 := Lib.hid i10
  have HN := Lib.hid (show n = 1 from hone hk0)
  have hc65 : (c : Int) ≤ 65535 := by have := i7 hk0; have := hmost (.inr hk0); omega
  clear hE hPRE HI
  clear hrs hvs hk0 hmost hone hparts hnames hnone hkids hrk hVK hcf hrb hown hnn hkz his hsz i10 i1 i2 i3 i6 i7 i8 i9 i4 i5
  go_enter Tryz.func11, Tryz.ntmps11
  go_upto_region 1 with fail
  rw [← hw1]
  obtain ⟨vb, hvb⟩ : ∃ vb, w.heap.size + 1 = vb := ⟨_, rfl⟩
  rw [hvb] at v1 ⊢
  obtain ⟨tb, htb⟩ : ∃ tb, w.heap.size = tb := ⟨_, rfl⟩
  rw [htb] at q1 ⊢
  obtain ⟨c0, c1, c2, c3⟩ := cell_of_four q1
  obtain ⟨d0, d1, d2, d3⟩ := cell_of_four v1
  have H1 := Lib.hid (And.intro f1 (And.intro q1 v1))
  clear hw1 f1 q1 v1 hvb htb
  go_wp2_with fail
  refine (refword_any (c : Int) (by omega) hc65 w1).mono ?_
  rintro er w2 ⟨pv, rfl, hm⟩
  rw [Int.toNat_natCast, ← HPR.out] at hm
  have HM2 : Hid (Made pv (PRE ++ partsB E 0) w1 w2) := Lib.hid (by show Made pv (PRE ++ []) w1 w2; rw [List.append_nil]; exact hm)
  clear hm c0 c1 c2 c3 d0 d1 d2 d3
  dsimp only
  go_wp2
  go_loopg [5, 6] c (fun G u5 u6 wr => ∃ j : Nat, j ≤ c ∧ G = c - j ∧ u6 = .int .i64 j ∧ Hid (Made u5 (PRE ++ partsB E j) w1 wr))
  case atStart => exact ⟨0, Nat.zero_le _, rfl, by go_num, HM2⟩
  case round =>
    obtain ⟨j, hj, rfl, rfl, HI⟩ := hrel
    have qr := box_kept H1.out.2.1 HI.out.2.1 (fun h => h)
    have vr := box_kept H1.out.2.2 HI.out.2.1 (fun h => h)
    obtain ⟨c0, c1, c2, c3⟩ := cell_of_four qr
    obtain ⟨d0, d1, d2, d3⟩ := cell_of_four vr
    clear qr vr
    obtain ⟨oa, oc, e5⟩ := slice_of_made HI.out
    obtain ⟨L, hL⟩ : ∃ L, PRE ++ partsB E j = L := ⟨_, rfl⟩
    rw [hL] at e5 HI
    obtain ⟨nl, hnl⟩ : ∃ nl, L.length = nl := ⟨_, rfl⟩
    rw [hnl] at e5
    subst e5
    have HLE := Lib.hid hL
    clear hL hnl
    by_cases hlt : j < c
    · have HLT := Lib.hid hlt
      rcases HRK.out with hz | ⟨hcap, g, off, hg, rfl, hcell⟩
      · have := HN.out; omega
      rcases HVK.out with hz | ⟨hvcap, gv, ov', hgv, rfl, hvcell⟩
      · omega
      obtain ⟨x0', x1, x2, x3, y0, y1, y2, y3, hx⟩ := hcell 0 (by have := HN.out; omega)
      obtain ⟨s0, s1, s2, s3, r0, r1, r2, r3, hs⟩ := hvcell j hlt
      obtain ⟨ak, am, an, aa, ac, acap, ex⟩ := hx.lit
      simp only [Value.agg.injEq, Array.mk.injEq, List.cons.injEq, and_true] at ex
      obtain ⟨rfl, rfl, rfl, rfl⟩ := ex
      obtain ⟨zn, zf, zs, za, zc, zcap, es⟩ := hs.lit
      simp only [Value.agg.injEq, Array.mk.injEq, List.cons.injEq, and_true] at es
      obtain ⟨rfl, rfl, rfl, rfl⟩ := es
      try simp only [Nat.zero_mul, Nat.add_zero] at y0 y1 y2 y3
      have HY := Lib.hid (And.intro hg (And.intro y0 (And.intro y1 (And.intro y2 y3))))
      have HRC := Lib.hid (And.intro hgv (And.intro r0 (And.intro r1 (And.intro r2 r3))))
      have HX := Lib.hid (And.intro hx hs)
      have hej : E j = encE (of 0) (ov j) := by rw [HEE.out]
      obtain ⟨P, hP⟩ : ∃ P, encE (of 0) (ov j) = P := ⟨_, rfl⟩
      have HLP : Hid (L.length + P.length ≤ 10000000) := Lib.hid (by
        have h1 := HB.out
        rw [HE.out, List.length_append] at h1
        have h2 := partsB_le E (j + 1) c hlt
        rw [partsB_succ, List.length_append, hej, hP] at h2
        have h3 := congrArg List.length HLE.out
        rw [List.length_append] at h3
        omega)
      have HSUB : Hid (goodE (of 0) ∧ isE (of 0) (ov j) = true ∧ szV (ov j) ≤ 100000) := Lib.hid ⟨HKIDS.out 0 (by have := HN.out; omega), by
        have h1 := HI10.out j hlt
        have hk := HK0.out.1
        subst hk
        simpa using h1, Nat.le_trans (sumP_le (fun i => szV (ov i)) c j hlt) (by have h1 := HSZ.out; rw [szV] at h1; unfold sumP; omega)⟩
      have HPE := Lib.hid (And.intro hP hej)
      have jc : (j : Int) < (c : Int) := by omega
      have n0 : 0 < n := by have := HN.out; omega
      have n1 : ((0 : Nat) : Int) < (n : Int) := by omega
      have HL := Lib.hid HI.out
      clear hcell hvcell hx hs y0 y1 y2 y3 r0 r1 r2 r3 hP hej
      go_upto_region 13 with fail
      clear c0 c1 c2 c3 d0 d1 d2 d3
      refine wp_region_chain (by kernel_rfl) [some 42, some 43, some 44, some 45, some 46, some 47, some 48, some 49, some 50, some 51, some 52, some 53, some 5] rfl (by decide) (by intro d hd; simp at hd ⊢; omega)
        [10, 11, 12] (fun cvs wx => RS w1 (.slice oa nl oc) L P cvs wx)
        [.free (.slice oa nl oc), .free (.pointer (some ⟨tb, 3, none⟩)), .free (.slice (some ⟨g, off, none⟩) n c'), .free (.pointer (some ⟨g, off, none⟩)), .free (.agg #[.int .i64 ak, .int .i64 am, .int .i64 an, .slice aa ac acap]), .free (.pointer (some ⟨vb, 3, none⟩)), .free (.slice (some ⟨gv, ov', none⟩) c cap), .free (.int .i64 j), .free (.pointer (some ⟨gv, ov' + j * 4, none⟩)), .free (.agg #[.int .i64 zn, .float .f64 zf, .string zs, .slice za zc zcap]), .link none, .link none, .link none]
        (by kernel_rfl) (by kernel_rfl) ?h5 ?step5 ?fin5
      case h5 => exact HL.out.later ((Fr.refl _ _).drew)
      case step5 =>
        intro vals
        simp only [frOfU, fillU, List.setIfInBounds_toArray, List.set_cons_succ, List.set_cons_zero]
        repeat' (first | exact AllOps.nil | refine AllOps.cons ?_ ?_)
        all_goals
          intro cvs wx hS he hu hlim Kc hK
          simp only [Act.put, List.setIfInBounds_toArray, List.set_cons_succ, List.set_cons_zero, List.getD_cons_zero, List.getD_cons_succ] at hK
          simp only [List.mem_cons, List.not_mem_nil, or_false, forall_eq_or_imp, forall_eq, Region.binds, forall_const, vmode_gc, Bool.false_eq_true, false_imp_iff, List.getD_cons_zero, List.getD_cons_succ, OpSort.val, Option.some.injEq, forall_eq', reduceCtorEq, implies_true, true_and, and_true] at he
          have HSX := Lib.hid hS
          clear hS
        all_goals first | (clear hlim hu; (try simp only [he] at hK ⊢); go_simp; exact hK) | skip
        · have h12 : vals 12 = (.slice oa nl oc) := hu 12 (by simp) (by kernel_rfl)
          clear hlim hu
          (try simp only [Nat.reduceAdd, Nat.zero_add] at hK)
          simp only [h12] at hK ⊢
          go_simp
          exact hK
        · clear hlim hu
          have l3 := cells_row (box_kept H1.out.2.1 HSX.out.fr (fun h => h)) 3 _ rfl
          simp only [he] at hK ⊢
          go_simp
          exact hK
        · clear hlim hu
          have r0 := cell_fr HSX.out.fr (fun _ _ h => h) HY.out.1 (cell_fr H1.out.1 (fun _ _ h => h) HY.out.1 HY.out.2.1)
          have r1 := cell_fr HSX.out.fr (fun _ _ h => h) HY.out.1 (cell_fr H1.out.1 (fun _ _ h => h) HY.out.1 HY.out.2.2.1)
          have r2 := cell_fr HSX.out.fr (fun _ _ h => h) HY.out.1 (cell_fr H1.out.1 (fun _ _ h => h) HY.out.1 HY.out.2.2.2.1)
          have r3 := cell_fr HSX.out.fr (fun _ _ h => h) HY.out.1 (cell_fr H1.out.1 (fun _ _ h => h) HY.out.1 HY.out.2.2.2.2)
          simp only [he] at hK ⊢
          go_simp
          exact hK
        · clear hlim hu
          have l3 := cells_row (box_kept H1.out.2.2 HSX.out.fr (fun h => h)) 3 _ rfl
          simp only [he] at hK ⊢
          go_simp
          exact hK
        · clear hlim hu
          have r0 := cell_fr HSX.out.fr (fun _ _ h => h) HRC.out.1 (cell_fr H1.out.1 (fun _ _ h => h) HRC.out.1 HRC.out.2.1)
          have r1 := cell_fr HSX.out.fr (fun _ _ h => h) HRC.out.1 (cell_fr H1.out.1 (fun _ _ h => h) HRC.out.1 HRC.out.2.2.1)
          have r2 := cell_fr HSX.out.fr (fun _ _ h => h) HRC.out.1 (cell_fr H1.out.1 (fun _ _ h => h) HRC.out.1 HRC.out.2.2.2.1)
          have r3 := cell_fr HSX.out.fr (fun _ _ h => h) HRC.out.1 (cell_fr H1.out.1 (fun _ _ h => h) HRC.out.1 HRC.out.2.2.2.2)
          simp only [he] at hK ⊢
          go_simp
          exact hK
        · obtain rfl := hlim (0 : Nat) rfl
          have h1 : Made (.slice oa nl oc) L w1 wx := HSX.out
          clear hlim hu HSX
          simp only [he] at hK ⊢
          go_simp
          go_at_call 11
          have f0 := H1.out.1.trans h1.2.1 (fun _ _ h => h)
          refine (ih 0 R _ _ wx _ HSUB.out.1 (RShows.fr f0 (fun _ _ h => h) _ _ HX.out.1) (VShows.fr f0 (fun _ _ h => h) _ _ HX.out.2) HSUB.out.2.1 HSUB.out.2.2).mono ?_
          rintro er wa ⟨pv', rfl, hm⟩
          rw [HPE.out.1] at hm
          exact hK _ _ (fun _ h => by cases h) ⟨h1.later hm.2.1, hm.1.sees⟩
        · obtain rfl := hlim (1 : Nat) rfl
          obtain ⟨h1, h2⟩ : Made (.slice oa nl oc) L w1 wx ∧ Sees wx (vals 10) P := HSX.out
          clear hlim hu HSX
          simp only [he] at hK ⊢
          rw [if_pos (by rfl)]
          refine opWp_app7 (.tmp 42) (.tmp 52) rfl (.slice oa nl oc) rfl (vals 10) rfl L P h1 (Fr.refl _ _) h2 HLP.out ?_
          intro v' w' m'
          exact hK _ _ (fun _ h => by cases h) m'
        · obtain rfl := hlim (2 : Nat) rfl
          have hm : Made (vals 11) (L ++ P) w1 wx := HSX.out
          clear hlim hu HSX
          obtain ⟨a3, c3, e3⟩ := slice_of_made hm
          obtain ⟨nq, hnq⟩ : ∃ nq, nq = (L ++ P).length := ⟨_, rfl⟩
          rw [← hnq] at e3
          have HMM := Lib.hid (e3 ▸ hm)
          clear hm hnq
          simp only [he, e3] at hK ⊢
          (try simp only [Nat.reduceAdd, Nat.zero_add] at hK)
          clear he e3
          go_simp
          exact hK _ _ (fun _ h => by cases h) HMM.out
      case fin5 =>
        intro vals w7 hS hV
        have v0 := hV 0 _ (by decide) rfl
        have v1 := hV 1 _ (by decide) rfl
        have v2 := hV 2 _ (by decide) rfl
        have v3 := hV 3 _ (by decide) rfl
        have v4 := hV 4 _ (by decide) rfl
        have v5 := hV 5 _ (by decide) rfl
        have v6 := hV 6 _ (by decide) rfl
        have v7 := hV 7 _ (by decide) rfl
        have v8 := hV 8 _ (by decide) rfl
        have v9 := hV 9 _ (by decide) rfl
        clear hV
        simp only [frOfU, fillU, List.setIfInBounds_toArray, List.set_cons_succ, List.set_cons_zero]
        simp only [Nat.reduceAdd, v0, v1, v2, v3, v4, v5, v6, v7, v8, v9]
        clear v0 v1 v2 v3 v4 v5 v6 v7 v8 v9
        have hm : Made (vals 12) (L ++ P) w1 w7 := hS
        have HM7 : Hid (Made (vals 12) (PRE ++ partsB E (j + 1)) w1 w7) := Lib.hid (by rw [partsB_succ, ← List.append_assoc, HLE.out, HPE.out.2, HPE.out.1]; exact hm)
        clear hm hS
        go_wp2
        go_roundg (c - (j + 1))
        case measure => have := HLT.out; omega
        case rel => exact ⟨j + 1, HLT.out, rfl, by go_num, HM7⟩
    · obtain rfl : j = c := by omega
      go_wp2
      go_ret
      rw [HE.out, HLE.out]
      exact ⟨_, rfl, Made.before H1.out.1 HI.out⟩

set_option maxRecDepth 100000 in
theorem rput_k6 (k : Nat) (m : Int) (ns : List Txt) (n : Nat) (of : Nat → KT) (ih : ∀ i, RPutAt (of i)) (hk0 : k = 6) : RPutAt (.mk k m ns n of) := by
  intro R v vv w T hgood hrs hvs his hsz
  have HB := Lib.hid (Nat.le_trans (enc_le _ hgood _ his) (Nat.mul_le_mul_left 64 hsz))
  obtain ⟨⟨hn12, hown⟩, hkids⟩ := hgood
  obtain ⟨hk8, hmost, hone, hparts, hnames, hnone⟩ := own_facts hown
  obtain ⟨_, _, _, _, _, a', c', e1, rfl, hrb, hrk⟩ := rshows_open hrs
  cases e1
  obtain ⟨N, f, s, c, ov, va, cap, rfl, rfl, hVB, hVK⟩ := vshows_open hvs
  obtain ⟨hN0, hN1, hf64, hsl, hc5⟩ := hVB
  obtain ⟨i1, i2, i3, i4, i5, i6, i7, i8, i9, i10⟩ := (isE_iff k m ns n of N f s c ov).1 his
  have HI := Lib.hid i10
  have HSZ := Lib.hid hsz
  obtain ⟨nn, hnn⟩ : ∃ nn, ns.length = nn := ⟨_, rfl⟩
  rw [hnn] at hrb ⊢
  have HK0 := Lib.hid (And.intro hk0 (And.intro hmost (And.intro hone (And.intro hparts (And.intro hnames (And.intro hnone hnn))))))
  have HKIDS := Lib.hid hkids
  have HRK := Lib.hid hrk
  have HVK := Lib.hid hVK
  have hnn1 : nn ≤ 1000 := hrb.2.1
  obtain ⟨cf, hcf⟩ : ∃ cf, Fl.canon f = cf := ⟨_, rfl⟩
  have HCF := Lib.hid hcf
  have hlen : ((⟨s.toArray⟩ : ByteArray).size : Int) = (s.length : Int) := by simp [ByteArray.size]
  unfold sv
  obtain ⟨kz, hkz⟩ : ∃ kz : Int, (k : Int) = kz := ⟨_, rfl⟩
  rw [hkz]
  have e0 : (kz == 0) = false := by simp; omega
  have e1 : (kz == 1) = false := by simp; omega
  have e2 : (kz == 2) = false := by simp; omega
  have e3 : (kz == 3) = false := by simp; omega
  have e4 : (kz == 4) = false := by simp; omega
  have e5 : (kz == 5) = false := by simp; omega
  have e6 : (kz == 6) = true := by simp; omega
  have e7 : (kz == 7) = false := by simp; omega
  have e8 : (kz == 8) = false := by simp; omega
  obtain ⟨w1, hw1⟩ : ∃ w1, w1 = (w.alloc (.cells #[.int .i64 kz, .int .i64 m, .int .i64 (nn : Nat), .slice a' n c'] 48)).alloc (.cells #[.int .i64 N, .float .f64 f, .string ⟨s.toArray⟩, .slice va c cap] 52) := ⟨_, rfl⟩
  have f1 : Fr (fun _ => False) w w1 := by rw [hw1]; exact ((Fr.refl _ _).alloc _).alloc _
  have q1 : w1.heap[w.heap.size]? = some (.cells #[.int .i64 kz, .int .i64 m, .int .i64 (nn : Nat), .slice a' n c'] 48 (0, 0)) := by rw [hw1]; exact heap_alloc_first _ _ _
  have v1 : w1.heap[w.heap.size + 1]? = some (.cells #[.int .i64 N, .float .f64 f, .string ⟨s.toArray⟩, .slice va c cap] 52 (0, 0)) := by rw [hw1]; exact heap_alloc_two _ _ _
  obtain ⟨E, hE⟩ : ∃ E : Nat → List UInt8, E = fun i => encE (of i) (ov i) := ⟨_, rfl⟩
  obtain ⟨PRE, hPRE⟩ : ∃ PRE : List UInt8, PRE = [] := ⟨_, rfl⟩
  have HE : Hid (encE (.mk k m ns n of) (.mk N f s c ov) = PRE ++ partsB E c) := Lib.hid (by rw [rencE_rec k m ns n of N f s c ov hk0, hE, hPRE]; simp only [hk0, show ((6 : Nat) = 5) = False from by simp, if_false, List.nil_append])
  have HEE := Lib.hid hE
  have HPR := Lib.hid hPRE
  have HI10 := Lib.hid i10
  have HN := Lib.hid (show n = c from (i8 hk0).symm)
  clear hE hPRE HI
  clear hrs hvs hk0 hmost hone hparts hnames hnone hkids hrk hVK hcf hrb hown hnn hkz his hsz i10 i1 i2 i3 i6 i7 i8 i9 i4 i5
  go_enter Tryz.func11, Tryz.ntmps11
  go_upto_region 1 with fail
  rw [← hw1]
  obtain ⟨vb, hvb⟩ : ∃ vb, w.heap.size + 1 = vb := ⟨_, rfl⟩
  rw [hvb] at v1 ⊢
  obtain ⟨tb, htb⟩ : ∃ tb, w.heap.size = tb := ⟨_, rfl⟩
  rw [htb] at q1 ⊢
  obtain ⟨c0, c1, c2, c3⟩ := cell_of_four q1
  obtain ⟨d0, d1, d2, d3⟩ := cell_of_four v1
  have H1 := Lib.hid (And.intro f1 (And.intro q1 v1))
  clear hw1 f1 q1 v1 hvb htb
  have HM2 : Hid (Made (.slice none 0 0) (PRE ++ partsB E 0) w1 w1) := Lib.hid (by rw [HPR.out]; exact ⟨World.ownsRow_nil _ _ _ _, Fr.refl _ _, by simp [Value.ownBlock]⟩)
  go_wp2
  clear c0 c1 c2 c3 d0 d1 d2 d3
  go_loopg [5, 7] c (fun G u5 u6 wr => ∃ j : Nat, j ≤ c ∧ G = c - j ∧ u6 = .int .i64 j ∧ Hid (Made u5 (PRE ++ partsB E j) w1 wr))
  case atStart => exact ⟨0, Nat.zero_le _, rfl, by go_num, HM2⟩
  case round =>
    obtain ⟨j, hj, rfl, rfl, HI⟩ := hrel
    have qr := box_kept H1.out.2.1 HI.out.2.1 (fun h => h)
    have vr := box_kept H1.out.2.2 HI.out.2.1 (fun h => h)
    obtain ⟨c0, c1, c2, c3⟩ := cell_of_four qr
    obtain ⟨d0, d1, d2, d3⟩ := cell_of_four vr
    clear qr vr
    obtain ⟨oa, oc, e5⟩ := slice_of_made HI.out
    obtain ⟨L, hL⟩ : ∃ L, PRE ++ partsB E j = L := ⟨_, rfl⟩
    rw [hL] at e5 HI
    obtain ⟨nl, hnl⟩ : ∃ nl, L.length = nl := ⟨_, rfl⟩
    rw [hnl] at e5
    subst e5
    have HLE := Lib.hid hL
    clear hL hnl
    by_cases hlt : j < c
    · have HLT := Lib.hid hlt
      rcases HRK.out with hz | ⟨hcap, g, off, hg, rfl, hcell⟩
      · have := HN.out; omega
      rcases HVK.out with hz | ⟨hvcap, gv, ov', hgv, rfl, hvcell⟩
      · omega
      obtain ⟨x0', x1, x2, x3, y0, y1, y2, y3, hx⟩ := hcell j (by have := HN.out; omega)
      obtain ⟨s0, s1, s2, s3, r0, r1, r2, r3, hs⟩ := hvcell j hlt
      obtain ⟨ak, am, an, aa, ac, acap, ex⟩ := hx.lit
      simp only [Value.agg.injEq, Array.mk.injEq, List.cons.injEq, and_true] at ex
      obtain ⟨rfl, rfl, rfl, rfl⟩ := ex
      obtain ⟨zn, zf, zs, za, zc, zcap, es⟩ := hs.lit
      simp only [Value.agg.injEq, Array.mk.injEq, List.cons.injEq, and_true] at es
      obtain ⟨rfl, rfl, rfl, rfl⟩ := es
      try simp only [Nat.zero_mul, Nat.add_zero] at y0 y1 y2 y3
      have HY := Lib.hid (And.intro hg (And.intro y0 (And.intro y1 (And.intro y2 y3))))
      have HRC := Lib.hid (And.intro hgv (And.intro r0 (And.intro r1 (And.intro r2 r3))))
      have HX := Lib.hid (And.intro hx hs)
      have hej : E j = encE (of j) (ov j) := by rw [HEE.out]
      obtain ⟨P, hP⟩ : ∃ P, encE (of j) (ov j) = P := ⟨_, rfl⟩
      have HLP : Hid (L.length + P.length ≤ 10000000) := Lib.hid (by
        have h1 := HB.out
        rw [HE.out, List.length_append] at h1
        have h2 := partsB_le E (j + 1) c hlt
        rw [partsB_succ, List.length_append, hej, hP] at h2
        have h3 := congrArg List.length HLE.out
        rw [List.length_append] at h3
        omega)
      have HSUB : Hid (goodE (of j) ∧ isE (of j) (ov j) = true ∧ szV (ov j) ≤ 100000) := Lib.hid ⟨HKIDS.out j (by have := HN.out; omega), by
        have h1 := HI10.out j hlt
        have hk := HK0.out.1
        subst hk
        simpa using h1, Nat.le_trans (sumP_le (fun i => szV (ov i)) c j hlt) (by have h1 := HSZ.out; rw [szV] at h1; unfold sumP; omega)⟩
      have HPE := Lib.hid (And.intro hP hej)
      have jc : (j : Int) < (c : Int) := by omega
      have n0 : j < n := by have := HN.out; omega
      have n1 : ((j : Nat) : Int) < (n : Int) := by omega
      have HL := Lib.hid HI.out
      clear hcell hvcell hx hs y0 y1 y2 y3 r0 r1 r2 r3 hP hej
      go_upto_region 19 with fail
      clear c0 c1 c2 c3 d0 d1 d2 d3
      refine wp_region_chain (by kernel_rfl) [some 65, some 66, some 67, some 68, some 69, some 70, some 71, some 72, some 73, some 74, some 75, some 76, some 77, some 5] rfl (by decide) (by intro d hd; simp at hd ⊢; omega)
        [11, 12, 13] (fun cvs wx => RS w1 (.slice oa nl oc) L P cvs wx)
        [.free (.slice oa nl oc), .free (.pointer (some ⟨tb, 3, none⟩)), .free (.slice (some ⟨g, off, none⟩) n c'), .free (.int .i64 j), .free (.pointer (some ⟨g, off + j * 4, none⟩)), .free (.agg #[.int .i64 ak, .int .i64 am, .int .i64 an, .slice aa ac acap]), .free (.pointer (some ⟨vb, 3, none⟩)), .free (.slice (some ⟨gv, ov', none⟩) c cap), .free (.int .i64 j), .free (.pointer (some ⟨gv, ov' + j * 4, none⟩)), .free (.agg #[.int .i64 zn, .float .f64 zf, .string zs, .slice za zc zcap]), .link none, .link none, .link none]
        (by kernel_rfl) (by kernel_rfl) ?h6 ?step6 ?fin6
      case h6 => exact HL.out.later ((Fr.refl _ _).drew)
      case step6 =>
        intro vals
        simp only [frOfU, fillU, List.setIfInBounds_toArray, List.set_cons_succ, List.set_cons_zero]
        repeat' (first | exact AllOps.nil | refine AllOps.cons ?_ ?_)
        all_goals
          intro cvs wx hS he hu hlim Kc hK
          simp only [Act.put, List.setIfInBounds_toArray, List.set_cons_succ, List.set_cons_zero, List.getD_cons_zero, List.getD_cons_succ] at hK
          simp only [List.mem_cons, List.not_mem_nil, or_false, forall_eq_or_imp, forall_eq, Region.binds, forall_const, vmode_gc, Bool.false_eq_true, false_imp_iff, List.getD_cons_zero, List.getD_cons_succ, OpSort.val, Option.some.injEq, forall_eq', reduceCtorEq, implies_true, true_and, and_true] at he
          have HSX := Lib.hid hS
          clear hS
        all_goals first | (clear hlim hu; (try simp only [he] at hK ⊢); go_simp; exact hK) | skip
        · have h12 : vals 13 = (.slice oa nl oc) := hu 13 (by simp) (by kernel_rfl)
          clear hlim hu
          (try simp only [Nat.reduceAdd, Nat.zero_add] at hK)
          simp only [h12] at hK ⊢
          go_simp
          exact hK
        · clear hlim hu
          have l3 := cells_row (box_kept H1.out.2.1 HSX.out.fr (fun h => h)) 3 _ rfl
          simp only [he] at hK ⊢
          go_simp
          exact hK
        · clear hlim hu
          have r0 := cell_fr HSX.out.fr (fun _ _ h => h) HY.out.1 (cell_fr H1.out.1 (fun _ _ h => h) HY.out.1 HY.out.2.1)
          have r1 := cell_fr HSX.out.fr (fun _ _ h => h) HY.out.1 (cell_fr H1.out.1 (fun _ _ h => h) HY.out.1 HY.out.2.2.1)
          have r2 := cell_fr HSX.out.fr (fun _ _ h => h) HY.out.1 (cell_fr H1.out.1 (fun _ _ h => h) HY.out.1 HY.out.2.2.2.1)
          have r3 := cell_fr HSX.out.fr (fun _ _ h => h) HY.out.1 (cell_fr H1.out.1 (fun _ _ h => h) HY.out.1 HY.out.2.2.2.2)
          simp only [he] at hK ⊢
          go_simp
          exact hK
        · clear hlim hu
          have l3 := cells_row (box_kept H1.out.2.2 HSX.out.fr (fun h => h)) 3 _ rfl
          simp only [he] at hK ⊢
          go_simp
          exact hK
        · clear hlim hu
          have r0 := cell_fr HSX.out.fr (fun _ _ h => h) HRC.out.1 (cell_fr H1.out.1 (fun _ _ h => h) HRC.out.1 HRC.out.2.1)
          have r1 := cell_fr HSX.out.fr (fun _ _ h => h) HRC.out.1 (cell_fr H1.out.1 (fun _ _ h => h) HRC.out.1 HRC.out.2.2.1)
          have r2 := cell_fr HSX.out.fr (fun _ _ h => h) HRC.out.1 (cell_fr H1.out.1 (fun _ _ h => h) HRC.out.1 HRC.out.2.2.2.1)
          have r3 := cell_fr HSX.out.fr (fun _ _ h => h) HRC.out.1 (cell_fr H1.out.1 (fun _ _ h => h) HRC.out.1 HRC.out.2.2.2.2)
          simp only [he] at hK ⊢
          go_simp
          exact hK
        · obtain rfl := hlim (0 : Nat) rfl
          have h1 : Made (.slice oa nl oc) L w1 wx := HSX.out
          clear hlim hu HSX
          simp only [he] at hK ⊢
          go_simp
          go_at_call 11
          have f0 := H1.out.1.trans h1.2.1 (fun _ _ h => h)
          refine (ih j R _ _ wx _ HSUB.out.1 (RShows.fr f0 (fun _ _ h => h) _ _ HX.out.1) (VShows.fr f0 (fun _ _ h => h) _ _ HX.out.2) HSUB.out.2.1 HSUB.out.2.2).mono ?_
          rintro er wa ⟨pv', rfl, hm⟩
          rw [HPE.out.1] at hm
          exact hK _ _ (fun _ h => by cases h) ⟨h1.later hm.2.1, hm.1.sees⟩
        · obtain rfl := hlim (1 : Nat) rfl
          obtain ⟨h1, h2⟩ : Made (.slice oa nl oc) L w1 wx ∧ Sees wx (vals 11) P := HSX.out
          clear hlim hu HSX
          simp only [he] at hK ⊢
          rw [if_pos (by rfl)]
          refine opWp_app7 (.tmp 65) (.tmp 76) rfl (.slice oa nl oc) rfl (vals 11) rfl L P h1 (Fr.refl _ _) h2 HLP.out ?_
          intro v' w' m'
          exact hK _ _ (fun _ h => by cases h) m'
        · obtain rfl := hlim (2 : Nat) rfl
          have hm : Made (vals 12) (L ++ P) w1 wx := HSX.out
          clear hlim hu HSX
          obtain ⟨a3, c3, e3⟩ := slice_of_made hm
          obtain ⟨nq, hnq⟩ : ∃ nq, nq = (L ++ P).length := ⟨_, rfl⟩
          rw [← hnq] at e3
          have HMM := Lib.hid (e3 ▸ hm)
          clear hm hnq
          simp only [he, e3] at hK ⊢
          (try simp only [Nat.reduceAdd, Nat.zero_add] at hK)
          clear he e3
          go_simp
          exact hK _ _ (fun _ h => by cases h) HMM.out
      case fin6 =>
        intro vals w7 hS hV
        have v0 := hV 0 _ (by decide) rfl
        have v1 := hV 1 _ (by decide) rfl
        have v2 := hV 2 _ (by decide) rfl
        have v3 := hV 3 _ (by decide) rfl
        have v4 := hV 4 _ (by decide) rfl
        have v5 := hV 5 _ (by decide) rfl
        have v6 := hV 6 _ (by decide) rfl
        have v7 := hV 7 _ (by decide) rfl
        have v8 := hV 8 _ (by decide) rfl
        have v9 := hV 9 _ (by decide) rfl
        have v10 := hV 10 _ (by decide) rfl
        clear hV
        simp only [frOfU, fillU, List.setIfInBounds_toArray, List.set_cons_succ, List.set_cons_zero]
        simp only [Nat.reduceAdd, v0, v1, v2, v3, v4, v5, v6, v7, v8, v9, v10]
        clear v0 v1 v2 v3 v4 v5 v6 v7 v8 v9 v10
        have hm : Made (vals 13) (L ++ P) w1 w7 := hS
        have HM7 : Hid (Made (vals 13) (PRE ++ partsB E (j + 1)) w1 w7) := Lib.hid (by rw [partsB_succ, ← List.append_assoc, HLE.out, HPE.out.2, HPE.out.1]; exact hm)
        clear hm hS
        go_wp2
        go_roundg (c - (j + 1))
        case measure => have := HLT.out; omega
        case rel => exact ⟨j + 1, HLT.out, rfl, by go_num, HM7⟩
    · obtain rfl : j = c := by omega
      go_wp2
      go_ret
      rw [HE.out, HLE.out]
      exact ⟨_, rfl, Made.before H1.out.1 HI.out⟩

set_option maxRecDepth 100000 in
theorem rput_k8 (k : Nat) (m : Int) (ns : List Txt) (n : Nat) (of : Nat → KT) (ih : ∀ i, RPutAt (of i)) (hk0 : k = 8) : RPutAt (.mk k m ns n of) := by
  intro R v vv w T hgood hrs hvs his hsz
  have HB := Lib.hid (Nat.le_trans (enc_le _ hgood _ his) (Nat.mul_le_mul_left 64 hsz))
  obtain ⟨⟨hn12, hown⟩, hkids⟩ := hgood
  obtain ⟨hk8, hmost, hone, hparts, hnames, hnone⟩ := own_facts hown
  obtain ⟨_, _, _, _, _, a', c', e1, rfl, hrb, hrk⟩ := rshows_open hrs
  cases e1
  obtain ⟨N, f, s, c, ov, va, cap, rfl, rfl, hVB, hVK⟩ := vshows_open hvs
  obtain ⟨hN0, hN1, hf64, hsl, hc5⟩ := hVB
  obtain ⟨i1, i2, i3, i4, i5, i6, i7, i8, i9, i10⟩ := (isE_iff k m ns n of N f s c ov).1 his
  have HI := Lib.hid i10
  have HSZ := Lib.hid hsz
  obtain ⟨nn, hnn⟩ : ∃ nn, ns.length = nn := ⟨_, rfl⟩
  rw [hnn] at hrb ⊢
  have HK0 := Lib.hid (And.intro hk0 (And.intro hmost (And.intro hone (And.intro hparts (And.intro hnames (And.intro hnone hnn))))))
  have HKIDS := Lib.hid hkids
  have HRK := Lib.hid hrk
  have HVK := Lib.hid hVK
  have hnn1 : nn ≤ 1000 := hrb.2.1
  obtain ⟨cf, hcf⟩ : ∃ cf, Fl.canon f = cf := ⟨_, rfl⟩
  have HCF := Lib.hid hcf
  have hlen : ((⟨s.toArray⟩ : ByteArray).size : Int) = (s.length : Int) := by simp [ByteArray.size]
  unfold sv
  obtain ⟨kz, hkz⟩ : ∃ kz : Int, (k : Int) = kz := ⟨_, rfl⟩
  rw [hkz]
  have e0 : (kz == 0) = false := by simp; omega
  have e1 : (kz == 1) = false := by simp; omega
  have e2 : (kz == 2) = false := by simp; omega
  have e3 : (kz == 3) = false := by simp; omega
  have e4 : (kz == 4) = false := by simp; omega
  have e5 : (kz == 5) = false := by simp; omega
  have e6 : (kz == 6) = false := by simp; omega
  have e7 : (kz == 7) = false := by simp; omega
  have e8 : (kz == 8) = true := by simp; omega
  obtain ⟨w1, hw1⟩ : ∃ w1, w1 = (w.alloc (.cells #[.int .i64 kz, .int .i64 m, .int .i64 (nn : Nat), .slice a' n c'] 48)).alloc (.cells #[.int .i64 N, .float .f64 f, .string ⟨s.toArray⟩, .slice va c cap] 52) := ⟨_, rfl⟩
  have f1 : Fr (fun _ => False) w w1 := by rw [hw1]; exact ((Fr.refl _ _).alloc _).alloc _
  have q1 : w1.heap[w.heap.size]? = some (.cells #[.int .i64 kz, .int .i64 m, .int .i64 (nn : Nat), .slice a' n c'] 48 (0, 0)) := by rw [hw1]; exact heap_alloc_first _ _ _
  have v1 : w1.heap[w.heap.size + 1]? = some (.cells #[.int .i64 N, .float .f64 f, .string ⟨s.toArray⟩, .slice va c cap] 52 (0, 0)) := by rw [hw1]; exact heap_alloc_two _ _ _
  obtain ⟨q, rfl⟩ : ∃ q : Nat, N = (q : Int) := ⟨N.toNat, by have h := i4; unfold lowE at h; rw [if_neg (by omega)] at h; omega⟩
  have HN : Hid (q < n) := Lib.hid (by
    have h := i5
    subst hk0
    have := hnames (.inr (.inr rfl))
    simp [highE] at h
    omega)
  have hq65 : (q : Int) ≤ 65535 := by have := HN.out; omega
  obtain rfl : c = 1 := i9 hk0
  have HE : Hid (encE (.mk k m ns n of) (.mk q f s 1 ov) = be2 q ++ encE (of q) (ov 0)) := Lib.hid (by rw [rencE_cho k m ns n of q f s ov hk0, Int.toNat_natCast])
  have HI10 := Lib.hid i10
  clear HI
  clear hrs hvs hk0 hmost hone hparts hnames hnone hkids hrk hVK hcf hrb hown hnn hkz his hsz i10 i1 i2 i3 i6 i7 i8 i9 i4 i5
  go_enter Tryz.func11, Tryz.ntmps11
  go_upto_region 1 with fail
  rw [← hw1]
  obtain ⟨vb, hvb⟩ : ∃ vb, w.heap.size + 1 = vb := ⟨_, rfl⟩
  rw [hvb] at v1 ⊢
  obtain ⟨tb, htb⟩ : ∃ tb, w.heap.size = tb := ⟨_, rfl⟩
  rw [htb] at q1 ⊢
  obtain ⟨c0, c1, c2, c3⟩ := cell_of_four q1
  obtain ⟨d0, d1, d2, d3⟩ := cell_of_four v1
  have H1 := Lib.hid (And.intro f1 (And.intro q1 v1))
  clear hw1 f1 q1 v1 hvb htb
  go_wp2_with fail
  refine (refword_any (q : Int) (by omega) hq65 w1).mono ?_
  rintro er w2 ⟨pv, rfl, hm⟩
  rw [Int.toNat_natCast] at hm
  obtain ⟨oa, oc, e5⟩ := slice_of_made hm
  obtain ⟨L, hL⟩ : ∃ L, be2 q = L := ⟨_, rfl⟩
  rw [hL] at e5 hm
  obtain ⟨nl, hnl⟩ : ∃ nl, L.length = nl := ⟨_, rfl⟩
  rw [hnl] at e5
  subst e5
  have HL := Lib.hid hm
  have HLE := Lib.hid hL
  clear hm hL hnl c0 c1 c2 c3 d0 d1 d2 d3
  obtain ⟨c0, c1, c2, c3⟩ := cell_of_four (box_kept H1.out.2.1 HL.out.2.1 (fun h => h))
  rcases HRK.out with hz | ⟨hcap, g, off, hg, rfl, hcell⟩
  · have := HN.out; omega
  rcases HVK.out with hz | ⟨hvcap, gv, ov', hgv, rfl, hvcell⟩
  · omega
  obtain ⟨x0', x1, x2, x3, y0, y1, y2, y3, hx⟩ := hcell q HN.out
  obtain ⟨s0, s1, s2, s3, r0, r1, r2, r3, hs⟩ := hvcell 0 (by omega)
  obtain ⟨ak, am, an, aa, ac, acap, ex⟩ := hx.lit
  simp only [Value.agg.injEq, Array.mk.injEq, List.cons.injEq, and_true] at ex
  obtain ⟨rfl, rfl, rfl, rfl⟩ := ex
  obtain ⟨zn, zf, zs, za, zc, zcap, es⟩ := hs.lit
  simp only [Value.agg.injEq, Array.mk.injEq, List.cons.injEq, and_true] at es
  obtain ⟨rfl, rfl, rfl, rfl⟩ := es
  simp only [Nat.zero_mul, Nat.add_zero] at r0 r1 r2 r3
  have HY := Lib.hid (And.intro hg (And.intro y0 (And.intro y1 (And.intro y2 y3))))
  have HRC := Lib.hid (And.intro hgv (And.intro r0 (And.intro r1 (And.intro r2 r3))))
  have HX := Lib.hid (And.intro hx hs)
  obtain ⟨P, hP⟩ : ∃ P, encE (of q) (ov 0) = P := ⟨_, rfl⟩
  have HLP : Hid (L.length + P.length ≤ 10000000) := Lib.hid (by
    have h1 := HB.out
    rw [HE.out, HLE.out, hP, List.length_append] at h1
    omega)
  have HSUB : Hid (goodE (of q) ∧ isE (of q) (ov 0) = true ∧ szV (ov 0) ≤ 100000) := Lib.hid ⟨HKIDS.out q HN.out, by
    have h1 := HI10.out 0 (by omega)
    have hk := HK0.out.1
    subst hk
    simpa using h1, Nat.le_trans (sumP_le (fun i => szV (ov i)) 1 0 (by omega)) (by have h1 := HSZ.out; rw [szV] at h1; unfold sumP; omega)⟩
  have HPE := Lib.hid (And.intro hP hP)
  have n0 : q < n := HN.out
  have n1 : (q : Int) < (n : Int) := by omega
  clear hcell hvcell hx hs y0 y1 y2 y3 r0 r1 r2 r3 hP
  dsimp only
  go_upto_region 23 with fail
  clear c0 c1 c2 c3
  refine wp_region_chain (by kernel_rfl) [some 85, some 86, some 87, some 88, some 89, some 90, some 91, some 92, some 93, some 94, some 95, some 96, some 97, some 5] rfl (by decide) (by intro d hd; simp at hd ⊢; omega)
    [11, 12, 13] (fun cvs wx => RS w1 (.slice oa nl oc) L P cvs wx)
    [.free (.slice oa nl oc), .free (.pointer (some ⟨tb, 3, none⟩)), .free (.slice (some ⟨g, off, none⟩) n c'), .free (.pointer (some ⟨vb, 0, none⟩)), .free (.int .i64 q), .free (.pointer (some ⟨g, off + q * 4, none⟩)), .free (.agg #[.int .i64 ak, .int .i64 am, .int .i64 an, .slice aa ac acap]), .free (.pointer (some ⟨vb, 3, none⟩)), .free (.slice (some ⟨gv, ov', none⟩) 1 cap), .free (.pointer (some ⟨gv, ov', none⟩)), .free (.agg #[.int .i64 zn, .float .f64 zf, .string zs, .slice za zc zcap]), .link none, .link none, .link none]
    (by kernel_rfl) (by kernel_rfl) ?h8 ?step8 ?fin8
  case h8 => exact HL.out.later ((Fr.refl _ _).drew)
  case step8 =>
    intro vals
    simp only [frOfU, fillU, List.setIfInBounds_toArray, List.set_cons_succ, List.set_cons_zero]
    repeat' (first | exact AllOps.nil | refine AllOps.cons ?_ ?_)
    all_goals
      intro cvs wx hS he hu hlim Kc hK
      simp only [Act.put, List.setIfInBounds_toArray, List.set_cons_succ, List.set_cons_zero, List.getD_cons_zero, List.getD_cons_succ] at hK
      simp only [List.mem_cons, List.not_mem_nil, or_false, forall_eq_or_imp, forall_eq, Region.binds, forall_const, vmode_gc, Bool.false_eq_true, false_imp_iff, List.getD_cons_zero, List.getD_cons_succ, OpSort.val, Option.some.injEq, forall_eq', reduceCtorEq, implies_true, true_and, and_true] at he
      have HSX := Lib.hid hS
      clear hS
    all_goals first | (clear hlim hu; (try simp only [he] at hK ⊢); go_simp; exact hK) | skip
    · have h12 : vals 13 = (.slice oa nl oc) := hu 13 (by simp) (by kernel_rfl)
      clear hlim hu
      (try simp only [Nat.reduceAdd, Nat.zero_add] at hK)
      simp only [h12] at hK ⊢
      go_simp
      exact hK
    · clear hlim hu
      have l3 := cells_row (box_kept H1.out.2.1 HSX.out.fr (fun h => h)) 3 _ rfl
      simp only [he] at hK ⊢
      go_simp
      exact hK
    · clear hlim hu
      have l3 := cells_row (box_kept H1.out.2.2 HSX.out.fr (fun h => h)) 0 _ rfl
      simp only [he] at hK ⊢
      go_simp
      exact hK
    · clear hlim hu
      have r0 := cell_fr HSX.out.fr (fun _ _ h => h) HY.out.1 (cell_fr H1.out.1 (fun _ _ h => h) HY.out.1 HY.out.2.1)
      have r1 := cell_fr HSX.out.fr (fun _ _ h => h) HY.out.1 (cell_fr H1.out.1 (fun _ _ h => h) HY.out.1 HY.out.2.2.1)
      have r2 := cell_fr HSX.out.fr (fun _ _ h => h) HY.out.1 (cell_fr H1.out.1 (fun _ _ h => h) HY.out.1 HY.out.2.2.2.1)
      have r3 := cell_fr HSX.out.fr (fun _ _ h => h) HY.out.1 (cell_fr H1.out.1 (fun _ _ h => h) HY.out.1 HY.out.2.2.2.2)
      simp only [he] at hK ⊢
      go_simp
      exact hK
    · clear hlim hu
      have l3 := cells_row (box_kept H1.out.2.2 HSX.out.fr (fun h => h)) 3 _ rfl
      simp only [he] at hK ⊢
      go_simp
      exact hK
    · clear hlim hu
      have r0 := cell_fr HSX.out.fr (fun _ _ h => h) HRC.out.1 (cell_fr H1.out.1 (fun _ _ h => h) HRC.out.1 HRC.out.2.1)
      have r1 := cell_fr HSX.out.fr (fun _ _ h => h) HRC.out.1 (cell_fr H1.out.1 (fun _ _ h => h) HRC.out.1 HRC.out.2.2.1)
      have r2 := cell_fr HSX.out.fr (fun _ _ h => h) HRC.out.1 (cell_fr H1.out.1 (fun _ _ h => h) HRC.out.1 HRC.out.2.2.2.1)
      have r3 := cell_fr HSX.out.fr (fun _ _ h => h) HRC.out.1 (cell_fr H1.out.1 (fun _ _ h => h) HRC.out.1 HRC.out.2.2.2.2)
      simp only [he] at hK ⊢
      go_simp
      exact hK
    · obtain rfl := hlim (0 : Nat) rfl
      have h1 : Made (.slice oa nl oc) L w1 wx := HSX.out
      clear hlim hu HSX
      simp only [he] at hK ⊢
      go_simp
      go_at_call 11
      have f0 := H1.out.1.trans h1.2.1 (fun _ _ h => h)
      refine (ih q R _ _ wx _ HSUB.out.1 (RShows.fr f0 (fun _ _ h => h) _ _ HX.out.1) (VShows.fr f0 (fun _ _ h => h) _ _ HX.out.2) HSUB.out.2.1 HSUB.out.2.2).mono ?_
      rintro er wa ⟨pv', rfl, hm⟩
      rw [HPE.out.1] at hm
      exact hK _ _ (fun _ h => by cases h) ⟨h1.later hm.2.1, hm.1.sees⟩
    · obtain rfl := hlim (1 : Nat) rfl
      obtain ⟨h1, h2⟩ : Made (.slice oa nl oc) L w1 wx ∧ Sees wx (vals 11) P := HSX.out
      clear hlim hu HSX
      simp only [he] at hK ⊢
      rw [if_pos (by rfl)]
      refine opWp_app7 (.tmp 85) (.tmp 96) rfl (.slice oa nl oc) rfl (vals 11) rfl L P h1 (Fr.refl _ _) h2 HLP.out ?_
      intro v' w' m'
      exact hK _ _ (fun _ h => by cases h) m'
    · obtain rfl := hlim (2 : Nat) rfl
      have hm : Made (vals 12) (L ++ P) w1 wx := HSX.out
      clear hlim hu HSX
      obtain ⟨a3, c3, e3⟩ := slice_of_made hm
      obtain ⟨nq, hnq⟩ : ∃ nq, nq = (L ++ P).length := ⟨_, rfl⟩
      rw [← hnq] at e3
      have HMM := Lib.hid (e3 ▸ hm)
      clear hm hnq
      simp only [he, e3] at hK ⊢
      (try simp only [Nat.reduceAdd, Nat.zero_add] at hK)
      clear he e3
      go_simp
      exact hK _ _ (fun _ h => by cases h) HMM.out
  case fin8 =>
    intro vals w7 hS hV
    have v0 := hV 0 _ (by decide) rfl
    have v1 := hV 1 _ (by decide) rfl
    have v2 := hV 2 _ (by decide) rfl
    have v3 := hV 3 _ (by decide) rfl
    have v4 := hV 4 _ (by decide) rfl
    have v5 := hV 5 _ (by decide) rfl
    have v6 := hV 6 _ (by decide) rfl
    have v7 := hV 7 _ (by decide) rfl
    have v8 := hV 8 _ (by decide) rfl
    have v9 := hV 9 _ (by decide) rfl
    have v10 := hV 10 _ (by decide) rfl
    clear hV
    simp only [frOfU, fillU, List.setIfInBounds_toArray, List.set_cons_succ, List.set_cons_zero]
    simp only [Nat.reduceAdd, v0, v1, v2, v3, v4, v5, v6, v7, v8, v9, v10]
    clear v0 v1 v2 v3 v4 v5 v6 v7 v8 v9 v10
    have hm : Made (vals 13) (L ++ P) w1 w7 := hS
    have HM7 := Lib.hid hm
    clear hm hS
    go_wp2
    go_ret
    rw [HE.out, HLE.out, HPE.out.1]
    exact ⟨_, rfl, Made.before H1.out.1 HM7.out⟩

theorem rput_any (t : KT) : RPutAt t := by
  induction t with
  | nil => exact fun _ _ _ _ _ h => h.elim
  | mk k m ns n of ih =>
    intro R v vv w T hg
    have hk8 := (own_facts hg.1.2).1
    rcases (by omega : k = 0 ∨ k = 1 ∨ k = 2 ∨ k = 3 ∨ k = 4 ∨ k = 5 ∨ k = 6 ∨ k = 7 ∨ k = 8) with h | h | h | h | h | h | h | h | h
    · exact rput_k0 k m ns n of ih h R v vv w T hg
    · exact rput_k1 k m ns n of ih h R v vv w T hg
    · exact rput_k2 k m ns n of ih h R v vv w T hg
    · exact rput_k3 k m ns n of ih h R v vv w T hg
    · exact rput_k4 k m ns n of ih h R v vv w T hg
    · exact rput_k5 k m ns n of ih h R v vv w T hg
    · exact rput_k6 k m ns n of ih h R v vv w T hg
    · exact rput_k7 k m ns n of ih h R v vv w T hg
    · exact rput_k8 k m ns n of ih h R v vv w T hg
end
end Go.Proofs.YtplipjijaaejlaaGreat
