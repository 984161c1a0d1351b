/-
  WireAny: for every bytes, kinds and bound the law returns true, and its arguments read as before.
-/
import Derived.Test.YtcnflbofohakjaaFacts
import Derived.Test.YtcnflbofohakjaaOpen
import Derived.Test.YtcnflbofohakjaaRegion
import Derived.Deep.RegionWith
import Derived.Deep.Cut
import Derived.Deep.CutRange
import Derived.Deep.LoopGhost
import Derived.Deep.CutBlock
import Derived.ShutString
namespace Go.Proofs.Ytcnflbofohakjaa
open Go.RowKit

/-- What the loop of WireAny keeps: the Reader's bytes are those from at on, or there is an error. -/
structure AnyRel (w : World) (bl : List UInt8) (b : Nat) (wr : World) (at_ : Nat) : Prop where
  fr : Fr (fun _ => False) w wr
  le : at_ ≤ bl.length
  hb : w.heap.size ≤ b
  rd : ∃ v l e, Rd wr b v l e ∧ (e = 0 → l = bl.drop at_) ∧ (∀ k, v.ownBlock = some k → w.heap.size ≤ k)

/-- What stands behind the switch of a round: a value was read, and written to a Writer of its own. -/
structure AnyMid (w : World) (b B : Nat) (l : List UInt8) (e : Int) (sm : Bool) (q l' : List UInt8) (e' : Int) (wx : World) : Prop where
  fr : Fr (fun _ => False) w wx
  rd : ∃ v', Rd wx b v' l' e' ∧ (∀ k, v'.ownBlock = some k → w.heap.size ≤ k)
  wr : ∃ vw, Wr wx B vw q
  ok : e' = 0 → e = 0 ∧ l = q ++ l'
  bad : e' ≠ 0 → sm = false ∧ l' = [] ∧ (e ≠ 0 → e' = e)

def AnyCut (w : World) (b B : Nat) (l : List UInt8) (e : Int) (c : Value) (wx : World) : Prop := ∃ sm q l' e', c = .bool sm ∧ AnyMid w b B l e sm q l' e' wx

theorem any_wr {b : Nat} {v : Value} {l l' : List UInt8} {e e' : Int} {wr w3 : World} (hR : Reads b v l' e' (wr.alloc (.cells #[.slice none 0 0] 30)) w3) (r3 : Rd wr b v l e) : Wr w3 wr.heap.size (.slice none 0 0) [] := by
  obtain ⟨_, _, hf, _⟩ := hR
  have := r3.lt
  exact (wr_new wr).fr hf (by omega) (by simp [Value.ownBlock])

theorem any_mid {b : Nat} {v : Value} {l l' q : List UInt8} {e e' : Int} {w wr w3 w4 : World} {o : Obj} {sm : Bool} (F : Fr (fun _ => False) w wr) (hb : w.heap.size ≤ b) (r3 : Rd wr b v l e) (q3 : ∀ k, v.ownBlock = some k → w.heap.size ≤ k)
    (hR : Reads b v l' e' (wr.alloc o) w3) (hW : Wrote wr.heap.size (.slice none 0 0) q w3 w4) (hok : e' = 0 → e = 0 ∧ l = q ++ l') (hbad : e' ≠ 0 → sm = false ∧ l' = [] ∧ (e ≠ 0 → e' = e)) : AnyMid w b wr.heap.size l e sm q l' e' w4 := by
  obtain ⟨v', h1, h2, h3⟩ := hR
  obtain ⟨vw, k1, k2, k3⟩ := hW
  have hlt := r3.lt
  have hsz := F.size
  have hv : ∀ k, v'.ownBlock = some k → v.ownBlock = some k := by
    intro k hk
    rcases h3 with e | e
    · exact e ▸ hk
    · rw [e] at hk; cases hk
  refine ⟨((F.alloc o).trans h2 (by rintro i hi rfl; omega)).trans k2 ?_, ⟨v', h1.fr k2 ?_ ?_, fun k hk => q3 k (hv k hk)⟩, ⟨vw, k1⟩, hok, hbad⟩
  · rintro i hi (e | e)
    · omega
    · simp [Value.ownBlock] at e
  · rintro (e | e)
    · omega
    · simp [Value.ownBlock] at e
  · rintro k hk (e | e)
    · have := r3.old k (hv k hk); omega
    · simp [Value.ownBlock] at e

/-- What each operation of the comparison in WireAny's round leaves. -/
def anyV (B p : Nat) (q bl : List UInt8) (aa : Option Addr) (ca : Nat) : Nat → Value → World → Prop
  | 0, v, _ => v = .int .i64 p
  | 1, v, _ => v = .pointer (some ⟨B, 0, none⟩)
  | 2, v, _ => v = .int .i64 q.length
  | 3, v, _ => v = .int .i64 ((p : Int) + (q.length : Int))
  | 4, v, _ => v = .slice aa bl.length ca
  | 5, v, _ => v = .int .i64 bl.length
  | 6, v, _ => v = .bool false
  | 7, v, _ => v = .bool false
  | 8, v, _ => v = .pointer (some ⟨B, 0, none⟩)
  | 9, v, w => ∀ W, Fr (fun _ => False) w W → (convert 28 9 v).run Try.prog W = .ok (.string ⟨q.toArray⟩) W
  | 10, v, _ => v = .string ⟨q.toArray⟩
  | 11, v, _ => v = .slice aa bl.length ca
  | 12, v, _ => v = .int .i64 p
  | 13, v, _ => v = .int .i64 p
  | 14, v, _ => v = .pointer (some ⟨B, 0, none⟩)
  | 15, v, _ => v = .int .i64 q.length
  | 16, v, _ => v = .int .i64 ((p : Int) + (q.length : Int))
  | 17, v, w => ∀ W, Fr (fun _ => False) w W → (convert 28 9 v).run Try.prog W = .ok (.string ⟨q.toArray⟩) W
  | 18, v, _ => v = .string ⟨q.toArray⟩
  | 19, v, _ => v = .bool false
  | 20, v, _ => v = .bool false
  | _, _, _ => True

theorem anyV_mono (B p : Nat) (q bl : List UInt8) (aa : Option Addr) (ca : Nat) : ∀ i v w w', Fr (fun _ => False) w w' → anyV B p q bl aa ca i v w → anyV B p q bl aa ca i v w' := by
  intro i v w w' hf h
  unfold anyV at *
  split <;> first | (simp only at h ⊢; exact h) | (simp only at h ⊢; exact fun W hW => h W (hf.trans0 hW)) | trivial

theorem any_num {b : Nat} {v : Value} {l : List UInt8} {e : Int} {w wr w3 w4 : World} {o : Obj} {k : Nat} {enc : Nat → List UInt8} (henc : ∀ q : List UInt8, q.length = k → enc (beNum q) = q) {x : Nat × (List UInt8 × Int)}
    (hf : (x.2.2 = 0 ∧ e = 0 ∧ k ≤ l.length ∧ x.1 = beNum (l.take k) ∧ x.2.1 = l.drop k) ∨ (x.2.2 ≠ 0 ∧ x.2.1 = [] ∧ x.1 = 0 ∧ (e ≠ 0 → x.2.2 = e)))
    (F : Fr (fun _ => False) w wr) (hb : w.heap.size ≤ b) (r3 : Rd wr b v l e) (q3 : ∀ k, v.ownBlock = some k → w.heap.size ≤ k)
    (hR : Reads b v x.2.1 x.2.2 (wr.alloc o) w3) (hW : Wrote wr.heap.size (.slice none 0 0) ([] ++ enc (x.1 : Int).toNat) w3 w4) : AnyCut w b wr.heap.size l e (.bool (decide (0 < x.1))) w4 := by
  rw [List.nil_append, Int.toNat_natCast] at hW
  refine ⟨_, enc x.1, x.2.1, x.2.2, rfl, any_mid F hb r3 q3 hR hW ?_ ?_⟩
  · intro h
    rcases hf with ⟨_, h2, h3, h4, h5⟩ | ⟨h1, _⟩
    · exact ⟨h2, by rw [h4, henc _ (by simp; omega), h5, List.take_append_drop]⟩
    · exact absurd h h1
  · intro h
    rcases hf with ⟨h1, _⟩ | ⟨_, h2, h3, h4⟩
    · exact absurd h1 h
    · exact ⟨by rw [h3]; rfl, h2, h4⟩

set_option maxRecDepth 100000 in
set_option maxHeartbeats 4000000 in
theorem any_any (va : Value) (bl : List UInt8) (vk : Value) (kl : List UInt8) (most : Int) (hb : bl.length ≤ 100) (hk : kl.length ≤ 60) (w : World) (ha : Sees w va bl) (hkk : Sees w vk kl) :
    Calls Try.prog 4 #[va, vk, .int .i64 most] w fun e w' => e = .returned (.bool true) ∧ Fr (fun _ => False) w w' := by
  have hb' : decide ((100 : Int) < (bl.length : Int)) = false := by simp; omega
  have hk' : decide ((60 : Int) < (kl.length : Int)) = false := by simp; omega
  obtain ⟨aa, ca, rfl, hna⟩ := ha.shape
  obtain ⟨ak, ck, rfl, hnk⟩ := hkk.shape
  clear hna hnk
  go_enter Try.func4, Try.ntmps4
  go_wp2_with fail
  refine (awake_any _).mono ?_
  rintro e w1 ⟨rfl, f1⟩
  go_wp2_with fail
  refine (read_any _ bl _ (ha.fr f1 (fun _ _ h => h)) (by omega)).mono ?_
  rintro e w2 ⟨b, v2, rfl, r2, f2, hb2, q2⟩
  have hrel0 : AnyRel w bl b w2 0 := ⟨f1.trans0 f2, Nat.zero_le _, Nat.le_trans f1.size hb2, v2, bl, 0, r2, fun _ => rfl, fun k hk => Nat.le_trans f1.size (q2 k hk)⟩
  clear f1 f2 hb2 q2 r2
  go_wp2_with fail
  go_loopg [8, 34] kl.length (fun g at_ i wr => ∃ k p : Nat, k ≤ kl.length ∧ g = kl.length - k ∧ i = .int .i64 k ∧ at_ = .int .i64 p ∧ AnyRel w bl b wr p)
  case atStart => exact ⟨0, 0, Nat.zero_le _, rfl, rfl, rfl, hrel0⟩
  case round =>
    clear hrel0
    obtain ⟨k, p, hkl, rfl, rfl, rfl, hrel⟩ := hrel
    by_cases hlt : k < kl.length
    · have hkc := hkk.fr hrel.fr (fun _ _ h => h)
      rcases hkc with ⟨h0, _⟩ | ⟨gk, off, cap, e, hle, hc⟩
      · rw [h0] at hlt; simp at hlt
      simp only [Value.slice.injEq] at e
      obtain ⟨rfl, _, rfl⟩ := e
      have hcell := hc k hlt
      clear hc
      generalize kl.getD k 0 = ch at *
      unfold bv at hcell
      have hch := ch.toNat_lt
      obtain ⟨v, l, e, r3, hl, q3⟩ := hrel.rd
      have Q3 := Lib.hid q3
      have Hl := Lib.hid hl
      clear q3 hl
      go_wp2_with fail
      refine (err_any b v l e _ r3).mono ?_
      rintro e' w' ⟨rfl, rfl⟩
      go_upto_block 2 with fail
      go_cut [13] from 44 to 106 (fun c wx => AnyCut w b wr.heap.size l e c wx)
      case first =>
        --<A
        have h4 : (ch.toNat % 5 = 0 ∨ ch.toNat % 5 = 1 ∨ ch.toNat % 5 = 2) ∨ ch.toNat % 5 = 3 ∨ ch.toNat % 5 = 4 := by omega
        have r3' := r3.fr ((Fr.refl (fun _ => False) wr).alloc (.cells #[.slice none 0 0] 30)) (fun h => h) (fun _ _ h => h)
        rcases h4 with (h5 | h5 | h5) | h5 | h5
        · have c0 : ((ch.toNat : Int) % 5 == 0) = true := by simp; omega
          clear h5
          have hf := numS_two l e 2 r3.clean
          have hs := numS_small (l, e) 2
          go_wp2_with fail
          refine (rword_any b v l e _ r3').mono ?_
          rintro e1 w3 ⟨rfl, hR⟩
          generalize numS (l, e) 2 = x at *
          have Hf := Lib.hid hf; clear hf
          go_wp2_with fail
          refine (word_any wr.heap.size _ [] _ (by omega) (by omega) _ (any_wr hR r3) (by simp)).mono ?_
          rintro e1 w4 ⟨rfl, hW⟩
          go_wp2_with fail
          go_meet
          case rel => exact any_num be2_beNum Hf.out hrel.fr hrel.hb r3 Q3.out hR hW
        · have c0 : ((ch.toNat : Int) % 5 == 0) = false := by simp; omega
          have c1 : ((ch.toNat : Int) % 5 == 1) = true := by simp; omega
          clear h5
          have hf := numS_two l e 4 r3.clean
          have hs := numS_small (l, e) 4
          go_wp2_with fail
          refine (rlong_any b v l e _ r3').mono ?_
          rintro e1 w3 ⟨rfl, hR⟩
          generalize numS (l, e) 4 = x at *
          have Hf := Lib.hid hf; clear hf
          go_wp2_with fail
          refine (long_any wr.heap.size _ [] _ (by omega) (by omega) _ (any_wr hR r3) (by simp)).mono ?_
          rintro e1 w4 ⟨rfl, hW⟩
          go_wp2_with fail
          go_meet
          case rel => exact any_num be4_beNum Hf.out hrel.fr hrel.hb r3 Q3.out hR hW
        · have c0 : ((ch.toNat : Int) % 5 == 0) = false := by simp; omega
          have c1 : ((ch.toNat : Int) % 5 == 1) = false := by simp; omega
          have c2 : ((ch.toNat : Int) % 5 == 2) = true := by simp; omega
          clear h5
          have hf := numS_two l e 8 r3.clean
          have hs := numS_small (l, e) 8
          go_wp2_with fail
          refine (rquad_any b v l e _ r3').mono ?_
          rintro e1 w3 ⟨rfl, hR⟩
          generalize numS (l, e) 8 = x at *
          have Hf := Lib.hid hf; clear hf
          go_wp2_with fail
          refine (quad_any wr.heap.size _ [] _ (by omega) (by omega) _ (any_wr hR r3) (by simp)).mono ?_
          rintro e1 w4 ⟨rfl, hW⟩
          go_wp2_with fail
          go_meet
          case rel => exact any_num be8_beNum Hf.out hrel.fr hrel.hb r3 Q3.out hR hW
        · have c0 : ((ch.toNat : Int) % 5 == 0) = false := by simp; omega
          have c1 : ((ch.toNat : Int) % 5 == 1) = false := by simp; omega
          have c2 : ((ch.toNat : Int) % 5 == 2) = false := by simp; omega
          have c3 : ((ch.toNat : Int) % 5 == 3) = true := by simp; omega
          clear h5
          have hf := textS_two l e most r3.clean
          go_wp2_with fail
          refine (rtext_any b v l e most _ r3').mono ?_
          rintro e1 w3 ⟨rfl, hR⟩
          generalize textS (l, e) most = x at *
          have hx : x.1.length < 65536 := by
            rcases hf with ⟨_, _, _, _, h⟩ | ⟨_, _, h, _⟩
            · exact h
            · rw [h]; simp
          have Hf := Lib.hid hf; clear hf
          go_wp2_with fail
          refine (text_any wr.heap.size _ [] _ (by rw [size_of_list]; omega) _ (any_wr hR r3) (by simp)).mono ?_
          rintro e1 w4 ⟨rfl, hW⟩
          rw [List.nil_append] at hW
          have mid : AnyMid w b wr.heap.size l e (!x.1.isEmpty) (txt x.1) x.2.1 x.2.2 w4 := any_mid hrel.fr hrel.hb r3 Q3.out hR hW
            (fun h => by
              rcases Hf.out with ⟨_, h2, h3, _⟩ | ⟨h1, _⟩
              · exact ⟨h2, h3⟩
              · exact absurd h h1)
            (fun h => by
              rcases Hf.out with ⟨h1, _⟩ | ⟨_, h2, h3, h4⟩
              · exact absurd h1 h
              · exact ⟨by rw [h3]; rfl, h2, h4⟩)
          clear hW hR
          obtain ⟨v4, r4, q4⟩ := mid.rd
          clear q4
          go_wp2_with fail
          refine (err_any b v4 x.2.1 x.2.2 _ r4).mono ?_
          rintro e1 w' ⟨rfl, rfl⟩
          by_cases hz : x.2.2 = 0
          · have hz' : (x.2.2 == 0) = true := by simpa using hz
            have hm : decide (most < (x.1.length : Int)) = false := by
              rcases Hf.out with ⟨_, _, _, h4, _⟩ | ⟨h1, _⟩
              · simp; omega
              · exact absurd hz h1
            clear hz
            go_wp2_with fail
            go_meet
            case rel => exact ⟨_, _, _, _, rfl, mid⟩
          · have hz' : (x.2.2 == 0) = false := by simpa using hz
            clear hz
            go_wp2_with fail
            go_meet
            case rel => exact ⟨_, _, _, _, rfl, mid⟩
        · have c0 : ((ch.toNat : Int) % 5 == 0) = false := by simp; omega
          have c1 : ((ch.toNat : Int) % 5 == 1) = false := by simp; omega
          have c2 : ((ch.toNat : Int) % 5 == 2) = false := by simp; omega
          have c3 : ((ch.toNat : Int) % 5 == 3) = false := by simp; omega
          clear h5
          have hf := withinS_two l e most r3.clean
          have hs := withinS_small (l, e) most
          go_wp2_with fail
          refine (within_any b v l e most _ r3').mono ?_
          rintro e1 w3 ⟨rfl, hR⟩
          generalize withinS (l, e) most = x at *
          have Hf := Lib.hid hf; clear hf
          go_wp2_with fail
          refine (word_any wr.heap.size _ [] _ (by omega) (by omega) _ (any_wr hR r3) (by simp)).mono ?_
          rintro e1 w4 ⟨rfl, hW⟩
          rw [List.nil_append, Int.toNat_natCast] at hW
          have mid : AnyMid w b wr.heap.size l e (decide (0 < x.1)) (be2 x.1) x.2.1 x.2.2 w4 := any_mid hrel.fr hrel.hb r3 Q3.out hR hW
            (fun h => by
              rcases Hf.out with ⟨_, h2, h3, h4, _, h6⟩ | ⟨h1, _⟩
              · exact ⟨h2, by rw [h4, be2_beNum _ (by simp; omega), h6, List.take_append_drop]⟩
              · exact absurd h h1)
            (fun h => by
              rcases Hf.out with ⟨h1, _⟩ | ⟨_, h2, h3, h4⟩
              · exact absurd h1 h
              · exact ⟨by rw [h3]; rfl, h2, h4⟩)
          clear hW hR
          obtain ⟨v4, r4, q4⟩ := mid.rd
          clear q4
          go_wp2_with fail
          refine (err_any b v4 x.2.1 x.2.2 _ r4).mono ?_
          rintro e1 w' ⟨rfl, rfl⟩
          by_cases hz : x.2.2 = 0
          · have hz' : (x.2.2 == 0) = true := by simpa using hz
            have hm : decide (most < (x.1 : Int)) = false := by
              rcases Hf.out with ⟨_, _, _, _, h4, _⟩ | ⟨h1, _⟩
              · simp; omega
              · exact absurd hz h1
            clear hz
            go_wp2_with fail
            go_meet
            case rel => exact ⟨_, _, _, _, rfl, mid⟩
          · have hz' : (x.2.2 == 0) = false := by simpa using hz
            clear hz
            go_wp2_with fail
            go_meet
            case rel => exact ⟨_, _, _, _, rfl, mid⟩
      -->A
      case rest =>
        obtain ⟨sm, q, l', e', rfl, mid⟩ := hcut
        obtain ⟨v', r4, q4⟩ := mid.rd
        have Q4 := Lib.hid q4; clear q4
        go_wp2_with fail
        refine (err_any b v' l' e' _ r4).mono ?_
        rintro e1 w' ⟨rfl, rfl⟩
        by_cases hz : e' = 0
        · subst hz
          obtain ⟨he, hlq⟩ := mid.ok rfl
          subst he
          have hlp := Hl.out rfl
          have hdrop : bl.drop p = q ++ l' := by rw [← hlp, hlq]
          have hlen : p + q.length ≤ bl.length := by
            have := congrArg List.length hdrop
            rw [List.length_drop, List.length_append] at this
            have := hrel.le
            omega
          obtain ⟨vw, hW⟩ := mid.wr
          have Hd := Lib.hid hdrop
          clear hdrop hlp hlq
          have hg : decide ((bl.length : Int) < (p : Int) + (q.length : Int)) = false := by simp; omega
          have hsee : ∀ W, Fr (fun _ => False) w W → Sees W (.slice aa bl.length ca) bl := fun W hW => ha.fr hW (fun _ _ h => h)
          have Hsee := Lib.hid hsee; clear hsee
          have hcap := ha.cap.2
          have hdr : Fr (fun _ => False) wc wc.drew := (Fr.refl _ _).drew
          have hwp : IntKind.i64.wrap ((p : Int) + (q.length : Int)) = (p : Int) + (q.length : Int) := IntWalk.i64_in _ (by omega)
          have hcapp : p + q.length ≤ ca := by omega
          have hci : (p : Int) + (q.length : Int) ≤ (ca : Int) := by omega
          have hp0 : (0 : Int) ≤ (p : Int) := by omega
          have hpq : (p : Int) ≤ (p : Int) + (q.length : Int) := by omega
          clear hcap
          by_cases hcp : ca = p
          · have hq : q = [] := List.eq_nil_of_length_eq_zero (by omega)
            subst hcp
            have hq0 : q.length ≤ 0 := by omega
            have hsl : ∀ c W, (convert 28 9 (.slice aa 0 c)).run Try.prog W = .ok (.string ⟨q.toArray⟩) W := fun c W => by
              rw [hq]
              exact Sees.string (l := []) (.inl ⟨rfl, aa, c, rfl⟩) _ _ _ Try.underlying28 Try.underlying5 Try.underlying9
            have Hsl := Lib.hid hsl
            clear hq hsl
            go_wp2_with fail
            go_cut [146] from 126 to 146 (fun c wx => c = .bool false ∧ Fr (fun _ => False) wc wx)
            case first =>
              --<B
              refine wp_region_told (by kernel_rfl) (fun a b => Fr (fun _ => False) a b) (fun w => Fr.refl _ w) (fun _ _ _ h k => h.trans0 k) [126, 127, 128, 129, 130, 131, 132, 133, 134, 135, 136, 137, 138, 139, 140, 141, 142, 143, 144, 145, 146] rfl (by decide) (by intro d hd; simp at hd ⊢; omega) (anyV wr.heap.size ca q bl aa ca) (anyV_mono _ _ _ _ _ _) (by kernel_rfl) ?step ?fin
              case step =>
                intro vals
                simp only [frOf, fill, List.setIfInBounds_toArray, List.set_cons_succ, List.set_cons_zero]
                repeat' (first | exact AllOps.nil | refine AllOps.cons ?_ ?_)
                all_goals
                  intro wx hle he K hK
                  simp only [Act.put, List.setIfInBounds_toArray, List.set_cons_succ, List.set_cons_zero] at hK
                  simp only [List.mem_cons, List.not_mem_nil, or_false, forall_eq_or_imp, forall_eq, Region.binds, forall_const, anyV, false_imp_iff] at he
                  try simp only [he] at hK
                  try have hi1 := he _ (Fr.refl _ wx)
                  try have hi2 := he.1 _ (Fr.refl _ wx)
                  try go_simp
                  first
                    | exact hK _ _ (Fr.refl _ _) rfl
                    | (refine (len_fr wr.heap.size vw _ _ wc hW (hdr.trans0 hle)).mono ?_
                       rintro e1 w' ⟨rfl, rfl⟩
                       exact hK _ _ (Fr.refl _ _) rfl)
                    | (refine (bytes_str wr.heap.size vw _ _ wc hW (hdr.trans0 hle) (by omega)).mono ?_
                       rintro e1 wa ⟨va, rfl, fa, ga, ca', da⟩
                       exact hK _ _ fa da)
                    | exact hK _ _ (Fr.refl _ _) (fun W hW => Hsl.out _ W)
              case fin =>
                intro vals w' hle hV
                have h20 : vals 20 = .bool false := hV 20 (by decide)
                have hfr := hdr.trans0 hle
                clear hV
                simp only [frOf, fill, List.setIfInBounds_toArray, List.set_cons_succ, List.set_cons_zero, Nat.reduceAdd]
                go_wp2_with fail
                go_meet
                case rel => exact ⟨h20, hfr⟩
              -->B
            case rest =>
              obtain ⟨rfl, hwx⟩ := hcut
              have gx := mid.fr.trans0 hwx
              have r5 := r4.fr hwx (fun h => h) (fun _ _ h => h)
              have w5 := hW.fr hwx (fun h => h) (fun _ _ h => h)
              have hll : l'.length + (ca + q.length) = bl.length := by
                have := congrArg List.length Hd.out
                rw [List.length_drop, List.length_append] at this
                have := hrel.le
                omega
              have hlf : ((l'.length : Int) != (bl.length : Int) - ((ca : Int) + (q.length : Int))) = false := by
                have : (l'.length : Int) = (bl.length : Int) - ((ca : Int) + (q.length : Int)) := by omega
                rw [this]; simp
              have hnext : AnyRel w bl b wc (ca + q.length) := ⟨gx, hlen, hrel.hb, v', l', 0, r5, fun _ => by rw [← List.drop_drop, Hd.out, List.drop_left], Q4.out⟩
              have Hn := Lib.hid hnext
              clear hdr hwx r4 hW hll hnext
              go_wp2_with fail
              refine (len_any wr.heap.size vw _ _ w5).mono ?_
              rintro e1 w' ⟨rfl, rfl⟩
              go_wp2_with fail
              refine (left_any b v' l' 0 _ r5).mono ?_
              rintro e1 w' ⟨rfl, rfl⟩
              go_wp2_with fail
              go_roundg (kl.length - (k + 1))
              case measure => omega
              case rel => exact ⟨k + 1, ca + q.length, by omega, rfl, by go_num, by go_num, Hn.out⟩
          · have hsl : ∀ W, Fr (fun _ => False) wc W → (convert 28 9 (.slice (aa.map fun x => x.add p) q.length (ca - p))).run Try.prog W = .ok (.string ⟨q.toArray⟩) W := by
              intro W hW
              have h1 := (Hsee.out W (mid.fr.trans0 hW)).drop_part (k := p) (by omega)
              rw [Hd.out, show bl.length - p = (q ++ l').length by rw [← Hd.out, List.length_drop]] at h1
              have h2 := h1.take (k := q.length) (by simp)
              rw [List.take_left] at h2
              exact h2.string _ _ _ Try.underlying28 Try.underlying5 Try.underlying9
            go_wp2_with fail
            go_cut [146] from 126 to 146 (fun c wx => c = .bool false ∧ Fr (fun _ => False) wc wx)
            case first =>
              --<B
              refine wp_region_told (by kernel_rfl) (fun a b => Fr (fun _ => False) a b) (fun w => Fr.refl _ w) (fun _ _ _ h k => h.trans0 k) [126, 127, 128, 129, 130, 131, 132, 133, 134, 135, 136, 137, 138, 139, 140, 141, 142, 143, 144, 145, 146] rfl (by decide) (by intro d hd; simp at hd ⊢; omega) (anyV wr.heap.size p q bl aa ca) (anyV_mono _ _ _ _ _ _) (by kernel_rfl) ?step ?fin
              case step =>
                intro vals
                simp only [frOf, fill, List.setIfInBounds_toArray, List.set_cons_succ, List.set_cons_zero]
                repeat' (first | exact AllOps.nil | refine AllOps.cons ?_ ?_)
                all_goals
                  intro wx hle he K hK
                  simp only [Act.put, List.setIfInBounds_toArray, List.set_cons_succ, List.set_cons_zero] at hK
                  simp only [List.mem_cons, List.not_mem_nil, or_false, forall_eq_or_imp, forall_eq, Region.binds, forall_const, anyV, false_imp_iff] at he
                  try simp only [he] at hK
                  try have hi1 := he _ (Fr.refl _ wx)
                  try have hi2 := he.1 _ (Fr.refl _ wx)
                  try go_simp
                  first
                    | exact hK _ _ (Fr.refl _ _) rfl
                    | (refine (len_fr wr.heap.size vw _ _ wc hW (hdr.trans0 hle)).mono ?_
                       rintro e1 w' ⟨rfl, rfl⟩
                       exact hK _ _ (Fr.refl _ _) rfl)
                    | (refine (bytes_str wr.heap.size vw _ _ wc hW (hdr.trans0 hle) (by omega)).mono ?_
                       rintro e1 wa ⟨va, rfl, fa, ga, ca', da⟩
                       exact hK _ _ fa da)
                    | exact hK _ _ (Fr.refl _ _) (fun W hW => by rw [show ((p : Int) + (q.length : Int)).toNat - p = q.length by omega]; exact hsl W ((hdr.trans0 hle).trans0 hW))
              case fin =>
                intro vals w' hle hV
                have h20 : vals 20 = .bool false := hV 20 (by decide)
                have hfr := hdr.trans0 hle
                clear hV
                simp only [frOf, fill, List.setIfInBounds_toArray, List.set_cons_succ, List.set_cons_zero, Nat.reduceAdd]
                go_wp2_with fail
                go_meet
                case rel => exact ⟨h20, hfr⟩
              -->B
            case rest =>
              obtain ⟨rfl, hwx⟩ := hcut
              have gx := mid.fr.trans0 hwx
              have r5 := r4.fr hwx (fun h => h) (fun _ _ h => h)
              have w5 := hW.fr hwx (fun h => h) (fun _ _ h => h)
              have hll : l'.length + (p + q.length) = bl.length := by
                have := congrArg List.length Hd.out
                rw [List.length_drop, List.length_append] at this
                have := hrel.le
                omega
              have hlf : ((l'.length : Int) != (bl.length : Int) - ((p : Int) + (q.length : Int))) = false := by
                have : (l'.length : Int) = (bl.length : Int) - ((p : Int) + (q.length : Int)) := by omega
                rw [this]; simp
              have hnext : AnyRel w bl b wc (p + q.length) := ⟨gx, hlen, hrel.hb, v', l', 0, r5, fun _ => by rw [← List.drop_drop, Hd.out, List.drop_left], Q4.out⟩
              have Hn := Lib.hid hnext
              clear hdr hwx r4 hW hll hnext
              go_wp2_with fail
              refine (len_any wr.heap.size vw _ _ w5).mono ?_
              rintro e1 w' ⟨rfl, rfl⟩
              go_wp2_with fail
              refine (left_any b v' l' 0 _ r5).mono ?_
              rintro e1 w' ⟨rfl, rfl⟩
              go_wp2_with fail
              go_roundg (kl.length - (k + 1))
              case measure => omega
              case rel => exact ⟨k + 1, p + q.length, by omega, rfl, by go_num, by go_num, Hn.out⟩
        · obtain ⟨rfl, hl0, hee⟩ := mid.bad hz
          have hz' : (e' != 0) = true := by simpa using hz
          subst hl0
          have hnext : AnyRel w bl b wc p := ⟨mid.fr, hrel.le, hrel.hb, v', [], e', r4, fun h => absurd h hz, Q4.out⟩
          by_cases he : e = 0
          · have he' : (e != 0) = false := by simpa using he
            have Hz := Lib.hid hz
            clear hz hee he
            go_wp2_with (first | (go_at_call 23; refine (left_any b v' [] e' _ r4).mono ?_; rintro e1 w' ⟨rfl, rfl⟩) | (go_at_call 25; refine (err_any b v' [] e' _ r4).mono ?_; rintro e1 w' ⟨rfl, rfl⟩))
            go_roundg (kl.length - (k + 1))
            case measure => omega
            case rel => exact ⟨k + 1, p, by omega, rfl, by go_num, rfl, hnext⟩
          · have he' : (e != 0) = true := by simpa using he
            have hee' : e' = e := hee he
            subst hee'
            have Hz := Lib.hid hz
            clear hz hee he
            go_wp2_with (first | (go_at_call 23; refine (left_any b v' [] e' _ r4).mono ?_; rintro e1 w' ⟨rfl, rfl⟩) | (go_at_call 25; refine (err_any b v' [] e' _ r4).mono ?_; rintro e1 w' ⟨rfl, rfl⟩))
            go_roundg (kl.length - (k + 1))
            case measure => omega
            case rel => exact ⟨k + 1, p, by omega, rfl, by go_num, rfl, hnext⟩
    · obtain ⟨v, l, e, r3, hl, q3⟩ := hrel.rd
      have gx := hrel.fr
      have hple := hrel.le
      clear q3 hkl hrel
      go_wp2_with fail
      refine (err_any b v l e _ r3).mono ?_
      rintro e1 w' ⟨rfl, rfl⟩
      by_cases he : e = 0
      · subst he
        have hlp := hl rfl
        by_cases hlast : p < bl.length
        · have hne : l ≠ [] := by
            intro h
            rw [h] at hlp
            have := congrArg List.length hlp
            rw [List.length_drop] at this
            simp at this
            omega
          have hpd : decide ((p : Int) < (bl.length : Int)) = true := by simp; omega
          have Hne := Lib.hid hne
          clear hne hlp hl
          go_wp2_with fail
          refine (end_any b v l 0 _ r3).mono ?_
          rintro e1 w' ⟨rfl, rfl⟩
          rw [if_neg Hne.out]
          go_wp2_with fail
          go_ret
          exact ⟨rfl, gx⟩
        · have hnil : l = [] := by rw [hlp]; exact List.drop_eq_nil_of_le (by omega)
          have hpd : decide ((p : Int) < (bl.length : Int)) = false := by simp; omega
          clear hlp hl
          subst hnil
          go_wp2_with fail
          refine (end_any b v [] 0 _ r3).mono ?_
          rintro e1 w' ⟨rfl, rfl⟩
          rw [if_pos rfl]
          go_wp2_with fail
          go_ret
          exact ⟨rfl, gx⟩
      · have hnil := r3.clean he
        have he' : (e == 0) = false := by simpa using he
        subst hnil
        have He := Lib.hid he
        clear hl he
        go_wp2_with fail
        refine (end_any b v [] e _ r3).mono ?_
        rintro e1 w' ⟨rfl, rfl⟩
        rw [if_pos rfl]
        go_wp2_with fail
        go_ret
        exact ⟨rfl, gx⟩

set_option maxRecDepth 100000 in
theorem any_long (va : Value) (bl : List UInt8) (vk : Value) (kl : List UInt8) (most : Int) (hlong : 100 < bl.length ∨ 60 < kl.length) (w : World) (ha : Sees w va bl) (hkk : Sees w vk kl) :
    Calls Try.prog 4 #[va, vk, .int .i64 most] w fun e w' => e = .returned (.bool true) ∧ Fr (fun _ => False) w w' := by
  obtain ⟨aa, ca, rfl, hna⟩ := ha.shape
  obtain ⟨ak, ck, rfl, hnk⟩ := hkk.shape
  clear hna hnk
  have h4 : decide ((100 : Int) < (bl.length : Int)) = true ∨ (decide ((100 : Int) < (bl.length : Int)) = false ∧ decide ((60 : Int) < (kl.length : Int)) = true) := by
    simp only [decide_eq_true_eq, decide_eq_false_iff_not]
    omega
  clear hlong
  rcases h4 with x1 | ⟨x1, x2⟩
  all_goals
    go_enter Try.func4, Try.ntmps4
    go_wp2_with fail
    refine (awake_any _).mono ?_
    rintro e w1 ⟨rfl, g1⟩
    go_wp2_with fail
    go_ret
    exact ⟨rfl, g1⟩

theorem any_all {w : World} (va : Value) (l0 : List Int) (s0 : SeesL w va (l0.map (Value.int .u8))) (f0 : ∀ n ∈ l0, (Lit.int .u8 n).wf = true) (vk : Value) (l1 : List Int) (s1 : SeesL w vk (l1.map (Value.int .u8))) (f1 : ∀ n ∈ l1, (Lit.int .u8 n).wf = true)
    (most : Int) (_m0 : -9223372036854775808 ≤ most) (_m1 : most ≤ 9223372036854775807) :
    Calls Try.prog 4 #[va, vk, .int .i64 most] w fun e w' => e = .returned (.bool true) ∧ Fr (fun _ => False) w w' := by
  have h0 := sees_u8 s0 f0
  have h1 := sees_u8 s1 f1
  by_cases h : (l0.map fun n => UInt8.ofNat n.toNat).length ≤ 100 ∧ (l1.map fun n => UInt8.ofNat n.toNat).length ≤ 60
  · exact any_any va _ vk _ most h.1 h.2 w h0 h1
  · exact any_long va _ vk _ most (by omega) w h0 h1

end Go.Proofs.Ytcnflbofohakjaa
