/-
  A chair that hears of promises and of votes.
-/
import Derived.Test.YtcjijafmfomohaaChair2
namespace Go.Proofs.Ytcjijafmfomohaa
open Go.RowKit
set_option maxRecDepth 100000

/-- An entry's lists lie outside of S. -/
def AwayS (S : Nat → Prop) (x : En) (v u : Value) : Prop := (x.l = [] ∨ ∀ k, v.ownBlock = some k → ¬ S k) ∧ (x.m = [] ∨ ∀ k, u.ownBlock = some k → ¬ S k)

theorem ES.keepS {S : Nat → Prop} {w w' : World} {x : En} {v u : Value} (h : ES w x v u) (ha : AwayS S x v u) (hf : Fr S w w') : ES w' x v u := ⟨h.1.keep hf ha.1, h.2.keep hf ha.2⟩

theorem ES.old {w : World} {x : En} {v u : Value} (h : ES w x v u) : AwayS (fun k => w.heap.size ≤ k) x v u := by
  constructor
  · rcases h.1 with ⟨e, _⟩ | ⟨g, off, cap, hv, hle, hc⟩
    · exact .inl e
    · by_cases h0 : x.l = []
      · exact .inl h0
      · right
        intro k hk h2
        have hl : 0 < x.l.length := List.length_pos_iff.2 h0
        have := World.block_lt_of_cell? w _ (hc 0 hl)
        rw [hv] at hk
        simp [Value.ownBlock] at hk
        simp at this
        omega
  · rcases SeesL.old h.2 with e | e
    · exact .inl (by simpa using e)
    · exact .inr (fun k hk h2 => by have := e k hk; omega)

theorem AwayS.mono {S T : Nat → Prop} {x : En} {v u : Value} (h : AwayS S x v u) (hT : ∀ k, T k → S k) : AwayS T x v u :=
  ⟨h.1.imp id (fun h k hk ht => h k hk (hT k ht)), h.2.imp id (fun h k hk ht => h k hk (hT k ht))⟩
theorem AwayS.or {S T : Nat → Prop} {x : En} {v u : Value} (h : AwayS S x v u) (h' : AwayS T x v u) : AwayS (fun k => S k ∨ T k) x v u := by
  refine ⟨?_, ?_⟩
  · rcases h.1 with e | e
    · exact .inl e
    · rcases h'.1 with e' | e'
      · exact .inl e'
      · exact .inr (fun k hk hs => hs.elim (e k hk) (e' k hk))
  · rcases h.2 with e | e
    · exact .inl e
    · rcases h'.2 with e' | e'
      · exact .inl e'
      · exact .inr (fun k hk hs => hs.elim (e k hk) (e' k hk))

/-- The heard ones' row is the former one, or a new one. -/
def NewH (w : World) (hv hv' : Value) : Prop := ∀ k, hv'.ownBlock = some k → hv.ownBlock = some k ∨ w.heap.size ≤ k

/-- The chair in block b. -/
structure ChS (w : World) (b B : Nat) (ms : List Int) (ma : Option Addr) (mc : Nat) (st : ChN) (hv : Value) : Prop where
  row : ∃ v u, w.heap[b]? = some (st.obj (.slice ma ms.length mc) v u hv) ∧ ES w st.x v u ∧ AwayS (ChF b hv) st.x v u
  small : EnSmall st.x
  own : OI w B hv st.h
  base : B ≤ w.heap.size
  ph0 : 0 ≤ st.ph
  ph1 : st.ph ≤ 3
  nd : st.h.Nodup
  sub : ∀ n ∈ st.h, n ∈ ms
  view : SI w (.slice ma ms.length mc) ms
  vb : ∀ k, (Value.slice ma ms.length mc).ownBlock = some k → k < B ∧ k ≠ b
  few : ms.length ≤ 16

theorem nodup_len : ∀ {h ms : List Int}, h.Nodup → (∀ n ∈ h, n ∈ ms) → h.length ≤ ms.length
  | [], _, _, _ => Nat.zero_le _
  | a :: t, ms, hn, hs => by
    obtain ⟨h1, h2⟩ := List.nodup_cons.1 hn
    have h3 := nodup_len (ms := ms.erase a) h2 (fun n hm => (List.mem_erase_of_ne (fun e => h1 (by rw [← e]; exact hm))).2 (hs n (.tail _ hm)))
    have ha := hs a (.head _)
    have h4 := List.length_erase_of_mem ha
    have h5 := List.length_pos_of_mem ha
    simp only [List.length_cons]
    omega

theorem ChS.len {w : World} {b B : Nat} {ms : List Int} {ma : Option Addr} {mc : Nat} {st : ChN} {hv : Value} (h : ChS w b B ms ma mc st hv) : st.h.length ≤ 16 := Nat.le_trans (nodup_len h.nd h.sub) h.few

theorem ChS.lt {w : World} {b B : Nat} {ms : List Int} {ma : Option Addr} {mc : Nat} {st : ChN} {hv : Value} (h : ChS w b B ms ma mc st hv) : b < w.heap.size := by
  obtain ⟨v, u, h1, _⟩ := h.row
  exact lt_of h1

theorem ChS.fr {S : Nat → Prop} {w w' : World} {b B : Nat} {ms : List Int} {ma : Option Addr} {mc : Nat} {st : ChN} {hv : Value} (h : ChS w b B ms ma mc st hv) (f : Fr S w w') (hb : ¬ S b) (hh : ∀ k, hv.ownBlock = some k → ¬ S k)
    (hx : ∀ v u, w.heap[b]? = some (st.obj (.slice ma ms.length mc) v u hv) → AwayS S st.x v u) (hm : ∀ k, (Value.slice ma ms.length mc).ownBlock = some k → ¬ S k) : ChS w' b B ms ma mc st hv := by
  obtain ⟨v, u, h1, h2, h3⟩ := h.row
  exact ⟨⟨v, u, crow_kept h1 f hb, h2.keepS (hx v u h1) f, h3⟩, h.small, oi_fr h.own f hh, Nat.le_trans h.base f.size, h.ph0, h.ph1, h.nd, h.sub, h.view.keep f (.inr hm), h.vb, h.few⟩

theorem ChS.fr0 {w w' : World} {b B : Nat} {ms : List Int} {ma : Option Addr} {mc : Nat} {st : ChN} {hv : Value} (h : ChS w b B ms ma mc st hv) (f : Fr (fun _ => False) w w') : ChS w' b B ms ma mc st hv :=
  h.fr f (fun h => h) (fun _ _ h => h) (fun _ _ _ => ⟨.inr (fun _ _ h => h), .inr (fun _ _ h => h)⟩) (fun _ _ h => h)

def ChN.accepted (ms : List Int) (st : ChN) (n r m : Int) : ChN := if expB ms st 2 n r m then st.hear ms n else st
def ChN.acceptedB (ms : List Int) (st : ChN) (n r m : Int) : Bool := expB ms st 2 n r m && st.enough ms n
def ChN.report (st : ChN) (wr wn : Int) (y : En) (s : Bool) : ChN := if s && (!st.rep || blt st.gr st.gn wr wn) then { st with x := y, gr := wr, gn := wn, rep := true } else st
def ChN.promised (ms : List Int) (st : ChN) (n r m wr wn : Int) (y : En) (s : Bool) : ChN := if expB ms st 1 n r m then (st.report wr wn y s).hear ms n else st
def ChN.promisedB (ms : List Int) (st : ChN) (n r m wr wn : Int) (y : En) (s : Bool) : Bool := expB ms st 1 n r m && (st.report wr wn y s).enough ms n

theorem expB_ph {ms : List Int} {st : ChN} {p n r m : Int} (h : expB ms st p n r m = true) : st.ph = p ∧ (st.br = r ∧ st.bn = m) ∧ n ∈ ms ∧ n ∉ st.h := by
  unfold expB at h
  simp only [Bool.and_eq_true, decide_eq_true_eq, Bool.not_eq_true', decide_eq_false_iff_not] at h
  exact ⟨h.1, beq2_eq h.2.1, h.2.2.1, h.2.2.2⟩

/-- A member that is heard: the chair's state. -/
theorem chhearS (b B : Nat) (ms : List Int) (ma : Option Addr) (mc : Nat) (st : ChN) (hv : Value) (n : Int) (w : World) (h : ChS w b B ms ma mc st hv) (hn : n ∈ ms) (hnh : n ∉ st.h) (hp : st.ph ≤ 2) :
    Calls Try.prog 23 #[.pointer (some ⟨b, 0, none⟩), .int .i64 n] w fun e w' =>
      e = .returned (.bool (st.enough ms n)) ∧ Fr (ChF b hv) w w' ∧ ∃ hv', ChS w' b B ms ma mc (st.hear ms n) hv' ∧ NewH w hv hv' := by
  have hlen := h.len
  obtain ⟨v, u, h1, h2, h3⟩ := h.row
  refine (chhear_any b B ms ma mc st v u hv n w h1 h.view (by have := h.few; omega) (by omega) h.own h.base h.vb h.ph0 h.ph1).mono ?_
  rintro e w' ⟨rfl, f, hv', g1, g2, g3⟩
  refine ⟨rfl, f, hv', ?_, g3⟩
  have e1 : (st.hear ms n).x = st.x := by unfold ChN.hear; split <;> rfl
  have hst : 0 ≤ (st.hear ms n).ph ∧ (st.hear ms n).ph ≤ 3 ∧ (st.hear ms n).h.Nodup ∧ ∀ k ∈ (st.hear ms n).h, k ∈ ms := by
    have := h.ph0
    unfold ChN.hear
    split
    · exact ⟨by show 0 ≤ st.ph + 1; omega, by show st.ph + 1 ≤ 3; omega, List.nodup_nil, fun k hk => by cases hk⟩
    · refine ⟨h.ph0, h.ph1, ?_, ?_⟩
      · show (st.h ++ [n]).Nodup
        rw [List.nodup_append]
        exact ⟨h.nd, List.nodup_cons.2 ⟨by simp, List.nodup_nil⟩, fun a ha c hc => by simp at hc; subst hc; exact fun e => hnh (e ▸ ha)⟩
      · intro k hk
        have hk : k ∈ st.h ++ [n] := hk
        rcases List.mem_append.1 hk with hk | hk
        · exact h.sub k hk
        · simp at hk; subst hk; exact hn
  have ho := h2.old
  refine ⟨⟨v, u, g1, e1 ▸ h2.keepS h3 f, e1 ▸ ?_⟩, e1 ▸ h.small, g2, Nat.le_trans h.base f.size, hst.1, hst.2.1, hst.2.2.1, hst.2.2.2, h.view.keep f (.inr ?_), h.vb, h.few⟩
  · exact (h3.or ho).mono (fun k hk => by
      rcases hk with rfl | hk
      · exact .inl (.inl rfl)
      · rcases g3 k hk with e | e
        · exact .inl (.inr e)
        · exact .inr e)
  · intro k hk hs
    rcases hs with rfl | hs
    · exact (h.vb k hk).2 rfl
    · have := oi_le h.own k hs
      have := (h.vb k hk).1
      omega

theorem expectsS (b B : Nat) (ms : List Int) (ma : Option Addr) (mc : Nat) (st : ChN) (hv : Value) (p n r m : Int) (w : World) (h : ChS w b B ms ma mc st hv) :
    Calls Try.prog 22 #[.pointer (some ⟨b, 0, none⟩), .int .u8 p, .int .i64 n, ball r m] w fun e w' => e = .returned (.bool (expB ms st p n r m)) ∧ Fr (fun _ => False) w w' := by
  have hlen := h.len
  obtain ⟨v, u, h1, h2, h3⟩ := h.row
  obtain ⟨ha, hc, rfl, hs⟩ := h.own.si.shape
  exact expects_any b ms ma ha mc hc st v u p n r m w h1 (sic_of h.view) hs (by have := h.few; omega) (by omega)

set_option maxHeartbeats 8000000 in
theorem chaccepted_no (b B : Nat) (ms : List Int) (ma : Option Addr) (mc : Nat) (st : ChN) (hv : Value) (n r m : Int) (w : World) (h : ChS w b B ms ma mc st hv) (he : expB ms st 2 n r m = false) :
    Calls Try.prog 17 #[.pointer (some ⟨b, 0, none⟩), .int .i64 n, ball r m] w fun e w' => e = .returned (.bool false) ∧ Fr (fun _ => False) w w' := by
  have f0 : Fr (fun _ => False) w (w.alloc (oBa r m)) := (Fr.refl _ _).alloc _
  have Q0 := Lib.hid (And.intro (h.fr0 f0) (heap_alloc_new w (oBa r m)))
  have F0 := Lib.hid f0
  have HE := Lib.hid he
  clear h f0 he
  go_enter Try.func17, Try.ntmps17
  go_upto_region 1 with fail
  generalize w.alloc (oBa r m) = w0 at *
  generalize w.heap.size = gb at *
  obtain ⟨b0, b1⟩ := ba_cells Q0.out.2
  go_wp2_with fail
  refine (expectsS b B ms ma mc st hv 2 n r m _ Q0.out.1).mono ?_
  rintro e1 wa ⟨rfl, fa⟩
  rw [HE.out]
  have F1 := Lib.hid (F0.out.trans fa (fun _ _ h => h))
  clear fa b0 b1
  go_wp2_with fail
  go_ret
  exact ⟨rfl, F1.out⟩


set_option maxHeartbeats 8000000 in
theorem chaccepted_yes (b B : Nat) (ms : List Int) (ma : Option Addr) (mc : Nat) (st : ChN) (hv : Value) (n r m : Int) (w : World) (h : ChS w b B ms ma mc st hv) (he : expB ms st 2 n r m = true) :
    Calls Try.prog 17 #[.pointer (some ⟨b, 0, none⟩), .int .i64 n, ball r m] w fun e w' => e = .returned (.bool (st.enough ms n)) ∧ Fr (ChF b hv) w w' ∧ ∃ hv', ChS w' b B ms ma mc (st.hear ms n) hv' ∧ NewH w hv hv' := by
  have f0 : Fr (fun _ => False) w (w.alloc (oBa r m)) := (Fr.refl _ _).alloc _
  have Q0 := Lib.hid (And.intro (h.fr0 f0) (heap_alloc_new w (oBa r m)))
  have F0 := Lib.hid f0
  have HE := Lib.hid he
  have HX := Lib.hid (expB_ph he)
  have HGB : Hid (¬ ChF b hv w.heap.size) := Lib.hid (fun hk => by
    rcases hk with hk | hk
    · have := h.lt; omega
    · have := (World.ownsRow.lt h.own _ hk).2; omega)
  clear h f0 he
  obtain ⟨M, hM⟩ : ∃ M, M = st.enough ms n := ⟨_, rfl⟩
  rw [← hM]
  have HM := Lib.hid hM
  clear hM
  go_enter Try.func17, Try.ntmps17
  go_upto_region 1 with fail
  generalize w.alloc (oBa r m) = w0 at *
  generalize w.heap.size = gb at *
  obtain ⟨b0, b1⟩ := ba_cells Q0.out.2
  go_wp2_with fail
  refine (expectsS b B ms ma mc st hv 2 n r m _ Q0.out.1).mono ?_
  rintro e1 wa ⟨rfl, fa⟩
  rw [HE.out]
  have F1 := Lib.hid (F0.out.trans fa (fun _ _ h => h))
  have Q1 := Lib.hid (Q0.out.1.fr0 fa)
  clear fa b0 b1
  go_wp2_with fail
  refine (chhearS b B ms ma mc st hv n _ Q1.out HX.out.2.2.1 HX.out.2.2.2 (by have := HX.out.1; omega)).mono ?_
  rintro e1 wb ⟨rfl, fb, hv', hc, hn⟩
  rw [← HM.out]
  have F2 := Lib.hid ((F1.out.mono (fun _ _ h => h.elim)).trans fb (fun _ _ h => h))
  have Q2 := Lib.hid (And.intro hc hn)
  clear fb hc hn
  go_wp2_with fail
  go_ret
  exact ⟨rfl, F2.out, hv', Q2.out.1, fun k hk => (Q2.out.2 k hk).imp id (fun h => Nat.le_trans F1.out.size h)⟩



end Go.Proofs.Ytcjijafmfomohaa
