/-
  Bytes that are made piece by piece in regions that draw their order: 'append(f(), g()..)', 'append(append(want, f()..), g()..)'.
-/
import Derived.Test.YtmpnomngnfffbaaTwo
import Derived.Test.YtmpnomngnfffbaaCallTake
namespace Go.Proofs.Ytmpnomngnfffbaa
open Go.RowKit

theorem Made.plain {v : Value} {L : List UInt8} {w w1 w2 : World} (h : Made v L w w1) (f : Fr (fun _ => False) w1 w2) : Made v L w w2 :=
  ⟨h.1.fr f (fun _ _ h => h), h.2.1.trans0 f, h.2.2⟩

theorem Made.base {v : Value} {L : List UInt8} {w w1 w2 : World} (f : Fr (fun _ => False) w w1) (h : Made v L w1 w2) : Made v L w w2 :=
  ⟨h.1, f.trans0 h.2.1, fun k hk => Nat.le_trans f.size (h.2.2 k hk)⟩

theorem opWp_made {w wb wm : World} {o : Oper} {a : Act} {K : Act → World → Prop} {Q : Exit → Act → World → Prop} (s x : Operand)
    (ho : o.op = .call { callee := .builtin .append, args := #[s, x], argTypes := #[23, 23] })
    (v : Value) (hs : a.eval s = v) (xv : Value) (hx : a.eval x = xv) (L l : List UInt8) (h1 : Made v L wb wm) (h2 : Made xv l wm w) (hlen : L.length + l.length ≤ 100000)
    (h : ∀ v' w', Made v' (L ++ l) wb w' → K (a.put o.dst v') w') : o.wp Try.prog a w K Q := by
  obtain ⟨i0, hi, hz0, hz1, hz2⟩ := info_parts Try.infoU8
  obtain ⟨ax, cx, e⟩ := slice_of_own h2.1
  have hown := h1.1.fr h2.2.1 (fun _ _ h => h)
  obtain ⟨v', w', hr, k2, k3, k4⟩ := run_append_sep (P := Try.prog) w 0 23 23 o.type 5 i0 (.int .u8 0) 1 1 Try.underlying23 _ Try.underlying23 (.inr ⟨_, rfl⟩) hi hz0 hz1 hz2 rfl (by decide) v L.length (L.map bv) hown xv l.length (l.map bv) (fun w => by rw [e]; exact lenOf_slice _ _ _ _) (by simp) h2.1.sees.first (h2.1.sees.drew).first (bv_one _) (by unfold maxLen; omega) (by omega) (Nat.zero_le _)
  unfold Oper.wp execOp
  simp only [ho, resolve, invoke, builtin, Sem.run_bind, Sem.run_pure, Result.andThen_ok, List.map_toArray, List.map_cons, List.map_nil, hs, hx, hr]
  exact h v' w' (Made.append h1 h2.2.1 rfl k2 k3 k4)

/-- 'append(f(), g()..)'. -/
def WA (wb : World) (q1 q2 : List UInt8) : List Value → World → Prop
  | [], wx => Fr (fun _ => False) wb wx
  | [v1], wx => Made v1 q1 wb wx
  | [v1, v2], wx => ∃ wm, Made v1 q1 wb wm ∧ Made v2 q2 wm wx
  | [_, _, v3], wx => Made v3 (q1 ++ q2) wb wx
  | [_, _, _, v4], wx => Made v4 (q1 ++ q2) wb wx
  | _, _ => False

/-- 'append(append(u, f()..), g()..)'. -/
def WB (wb : World) (u : Value) (L q1 q2 : List UInt8) : List Value → World → Prop
  | [], wx => Made u L wb wx
  | [v1], wx => ∃ wm, Made u L wb wm ∧ Made v1 q1 wm wx
  | [_, v2], wx => Made v2 (L ++ q1) wb wx
  | [_, v2, v3], wx => ∃ wm, Made v2 (L ++ q1) wb wm ∧ Made v3 q2 wm wx
  | [_, _, _, v4], wx => Made v4 (L ++ q1 ++ q2) wb wx
  | [_, _, _, _, v5], wx => Made v5 (L ++ q1 ++ q2) wb wx
  | _, _ => False

theorem WA.fr {wb wx : World} {q1 q2 : List UInt8} : ∀ {c : List Value}, WA wb q1 q2 c wx → Fr (fun _ => False) wb wx
  | [], h => h
  | [_], h => h.2.1
  | [_, _], ⟨_, h1, h2⟩ => h1.2.1.trans0 h2.2.1
  | [_, _, _], h => h.2.1
  | [_, _, _, _], h => h.2.1
  | _ :: _ :: _ :: _ :: _ :: _, h => h.elim

theorem WB.fr {wb wx : World} {u : Value} {L q1 q2 : List UInt8} : ∀ {c : List Value}, WB wb u L q1 q2 c wx → Fr (fun _ => False) wb wx
  | [], h => h.2.1
  | [_], ⟨_, h1, h2⟩ => h1.2.1.trans0 h2.2.1
  | [_, _], h => h.2.1
  | [_, _, _], ⟨_, h1, h2⟩ => h1.2.1.trans0 h2.2.1
  | [_, _, _, _], h => h.2.1
  | [_, _, _, _, _], h => h.2.1
  | _ :: _ :: _ :: _ :: _ :: _ :: _, h => h.elim

theorem takeS_call (t n p : Int) (l rest : List UInt8) (ht0 : 0 ≤ t) (ht1 : t ≤ 65535) (hn0 : 0 ≤ n) (hn1 : n ≤ 65535) (hp0 : 0 ≤ p) (hp1 : p ≤ 65535) (hl : l.length ≤ 4000) :
    takeS (callB t n p l ++ rest, 0) = ((t.toNat, n.toNat, p.toNat, l), (rest, 0)) := by
  unfold takeS callB
  simp only [List.append_assoc]
  rw [numS_be2 _ (by omega), numS_be2 _ (by omega), numS_be2 _ (by omega), textS_txt _ _ (by omega) _ (by omega)]

theorem takeAS_ans (e r : Int) (l rest : List UInt8) (he0 : 0 ≤ e) (he1 : e ≤ 65535) (hr0 : 0 ≤ r) (hr1 : r ≤ 65535) (hl : l.length ≤ 4000) :
    takeAS (ansB e r l ++ rest, 0) = ((e.toNat, r.toNat, l), (rest, 0)) := by
  unfold takeAS ansB
  simp only [List.append_assoc]
  rw [numS_be2 _ (by omega), numS_be2 _ (by omega), textS_txt _ _ (by omega) _ (by omega)]

/-- All values are known but one, of which something is known. -/
def oneV (k : Nat) (Pk : Value → World → Prop) (vs : List Value) (i : Nat) (v : Value) (wx : World) : Prop := (i = k → Pk v wx) ∧ (i ≠ k → v = vs.getD i undef)

/-- What is read as this text, in whatever later world. -/
def readsAs (s : ByteArray) (v : Value) (wx : World) : Prop := ∀ W, Fr (fun _ => False) wx W → (convert 23 9 v).run Try.prog W = .ok (.string s) W

theorem oneV_reads (k : Nat) (s : ByteArray) (vs : List Value) : ∀ i v w w', Fr (fun _ => False) w w' → oneV k (readsAs s) vs i v w → oneV k (readsAs s) vs i v w' :=
  fun _ _ _ _ f h => ⟨fun e W hW => h.1 e W (f.trans0 hW), h.2⟩
end Go.Proofs.Ytmpnomngnfffbaa
