/-
  Post: a flight's value, its cells; bytes of one's own; what a post's memory is.
-/
import Derived.Test.YtojfabhbkdddpaaMade
import Derived.Test.YtojfabhbkdddpaaTrBase
import Derived.Test.YtojfabhbkdddpaaRegionL
import Derived.Test.YtojfabhbkdddpaaTwo
import Derived.Deep.OwnRows
import Derived.Laws.ResultCell
import Derived.Lib.SliceRun
namespace Go.Proofs.Ytojfabhbkdddpaa
open Go.RowKit
set_option maxRecDepth 100000

abbrev nilS : Value := .slice none 0 0
theorem new_two (w : World) (A B : Obj) : ((w.alloc A).alloc B).heap[w.heap.size + 1]? = some B := by
  have := heap_alloc_new (w.alloc A) B
  rw [World.size_alloc] at this
  exact this

theorem crow_kept {S : Nat → Prop} {w0 w1 : World} {b : Nat} {o : Obj} (h : w0.heap[b]? = some o) (f : Fr S w0 w1) (hb : ¬ S b) : w1.heap[b]? = some o := by
  rw [f.block b (Array.getElem?_eq_some_iff.1 h).1 hb]; exact h

theorem crow {w : World} {b : Nat} {cs : Array Value} {t : TypeId} (h : w.heap[b]? = some (.cells cs t (0, 0))) (i : Nat) (u : Value) (hu : cs[i]? = some u) : w.cell? ⟨b, i, none⟩ = some u := by
  rw [cell_of_row w b i cs t _ h]; exact hu

theorem vt_lt {w : World} {b : Nat} {o : Obj} (h : w.heap[b]? = some o) : b < w.heap.size := (Array.getElem?_eq_some_iff.1 h).1

theorem vfree {w : World} {g : Nat} {cs : Array Value} {t : TypeId} (h : w.heap[g]? = some (.cells cs t (0, 0))) (i : Nat) : w.frozen? ⟨g, i, none⟩ = false := by
  simp [World.frozen?, h]
theorem new_two_fst (w : World) (A B : Obj) : ((w.alloc A).alloc B).heap[w.heap.size]? = some A := by
  rw [Below.heap_alloc _ _ _ (by simp)]
  exact heap_alloc_new w A

theorem cell3 {w : World} {b : Nat} {x0 x1 x2 : Value} {t : TypeId} (h : w.heap[b]? = some (.cells #[x0, x1, x2] t (0, 0))) :
    w.cell? ⟨b, 0, none⟩ = some x0 ∧ w.cell? ⟨b, 1, none⟩ = some x1 ∧ w.cell? ⟨b, 2, none⟩ = some x2 := by
  simp [World.cell?, h]
theorem cst3 {w : World} {b : Nat} {x0 x1 x2 y0 y1 y2 : Value} {t : TypeId} (h : w.heap[b]? = some (.cells #[x0, x1, x2] t (0, 0))) :
    (((w.setCell ⟨b, 0, none⟩ y0).setCell ⟨b, 1, none⟩ y1).setCell ⟨b, 2, none⟩ y2).heap[b]? = some (.cells #[y0, y1, y2] t (0, 0)) := by
  have h0 : (w.setCell ⟨b, 0, none⟩ y0).heap[b]? = some (.cells #[y0, x1, x2] t (0, 0)) := by rw [heap_setCell_same w b 0 _ t y0 h]; rfl
  have h1 : ((w.setCell ⟨b, 0, none⟩ y0).setCell ⟨b, 1, none⟩ y1).heap[b]? = some (.cells #[y0, y1, x2] t (0, 0)) := by rw [heap_setCell_same _ b 1 _ t y1 h0]; rfl
  rw [heap_setCell_same _ b 2 _ t y2 h1]; rfl

theorem cfr3 {w : World} {b : Nat} (y0 y1 y2 : Value) {S : Nat → Prop} {w0 : World} (f : Fr S w0 w) (hb : b < w0.heap.size → S b) :
    Fr S w0 (((w.setCell ⟨b, 0, none⟩ y0).setCell ⟨b, 1, none⟩ y1).setCell ⟨b, 2, none⟩ y2) :=
  ((f.setCell (p := ⟨b, 0, none⟩) hb _).setCell (p := ⟨b, 1, none⟩) hb _).setCell (p := ⟨b, 2, none⟩) hb _
theorem Fr.comp {S T U : Nat → Prop} {a b c : World} (h : Fr S a b) (k : Fr T b c) (hS : ∀ i, S i → U i) (hT : ∀ i, T i → U i) : Fr U a c :=
  (h.mono (fun i _ hi => hS i hi)).trans k (fun i _ hi => hT i hi)
theorem ownsRow_fr {S : Nat → Prop} {w w' : World} {base : Nat} {e : TypeId} {size : Nat} {v : Value} {n : Nat} {xs : List Value} (h : w.ownsRow base e size v n xs) (hf : Fr S w w') (hS : ∀ k, v.ownBlock = some k → ¬ S k) : w'.ownsRow base e size v n xs := by
  refine ⟨h.1, ?_⟩
  rcases h.2 with hn | ⟨g, cap, cur, rfl, hb, hgg, rest⟩
  · exact .inl hn
  · refine .inr ⟨g, cap, cur, rfl, hb, ?_, rest⟩
    rw [hf.block g (Array.getElem?_eq_some_iff.1 hgg).1 (hS g rfl)]
    exact hgg
theorem results_cell_tmp_row {P : Program} {fn : Func} {p u : Tmp} {ty : TypeId} (h : fn.results = #[.cell p ty, .tmp u]) (tmps : Array Value) (w : World) (g : Nat) (t : TypeId) (cs : Array Value) (fr : Nat × Nat) (d : TypeDesc)
    (hp : tmps.getD p undef = .pointer (some ⟨g, 0, none⟩)) (hg : w.heap[g]? = some (.cells cs t fr))
    (hu : P.underlying ty = some d) (hd : (match d with | .struct _ | .array _ _ => true | _ => false) = true) (hi : (P.info? ty).map (·.size) = some cs.size) :
    (results fn tmps).run P w = .ok (.tuple #[.agg cs, tmps.getD u undef]) w := by
  rw [results_cell_tmp h]
  have hp' : tmps[p]?.getD undef = .pointer (some ⟨g, 0, none⟩) := by simpa using hp
  simp [hp', asAddr, run_loadVar_row w g t ty cs fr d hg hu hd hi, Result.andThen]
theorem sees_at {w : World} {a : Option Addr} {n c : Nat} {l : List UInt8} (h : Sees w (.slice a n c) l) (k : Nat) (hk : k < l.length) : ∃ g o, a = some ⟨g, o, none⟩ ∧ w.cell? ⟨g, o + k, none⟩ = some (bv (l.getD k 0)) := by
  rcases h with ⟨rfl, _⟩ | ⟨g, off, cap, e, hle, hc⟩
  · simp at hk
  · simp only [Value.slice.injEq] at e
    exact ⟨g, off, e.1, hc k hk⟩

theorem sees_lt {w : World} {g o n c : Nat} {l : List UInt8} (h : Sees w (.slice (some ⟨g, o, none⟩) n c) l) (k : Nat) (hk : k < l.length) : g < w.heap.size := by
  obtain ⟨g', o', e, hc⟩ := sees_at h k hk
  simp only [Option.some.injEq, Addr.mk.injEq] at e
  obtain ⟨rfl, _⟩ := e
  exact World.block_lt_of_cell? w _ hc

theorem own_at {w : World} {g n c : Nat} {l : List UInt8} (h : Own w (.slice (some ⟨g, 0, none⟩) n c) l) (k : Nat) (hk : k < l.length) : w.cell? ⟨g, 0 + k, none⟩ = some (bv (l.getD k 0)) := by
  obtain ⟨g', o', e, hc⟩ := sees_at h.sees k hk
  simp only [Option.some.injEq, Addr.mk.injEq] at e
  obtain ⟨rfl, rfl, _⟩ := e
  exact hc

theorem own_len {w : World} {g n c : Nat} {l : List UInt8} (h : Own w (.slice (some ⟨g, 0, none⟩) n c) l) : n = l.length := by
  rcases h.2 with ⟨e, _⟩ | ⟨g', cap', cur, h', _⟩
  · simp at e
  · simp at h'; exact h'.2.1

theorem own_frozen {w : World} {g n c : Nat} {l : List UInt8} (h : Own w (.slice (some ⟨g, 0, none⟩) n c) l) (k : Nat) : w.frozen? ⟨g, k, none⟩ = false := by
  obtain rfl := own_len h
  exact World.ownsRow.frozenAt h k

theorem own_set {w : World} {g n c : Nat} {l : List UInt8} (h : Own w (.slice (some ⟨g, 0, none⟩) n c) l) (k : Nat) (u : UInt8) : Own (w.setCell ⟨g, k, none⟩ (bv u)) (.slice (some ⟨g, 0, none⟩) n c) (l.set k u) := by
  obtain rfl := own_len h
  have := (World.ownsRow.stored h k (bv u)).1
  unfold Own
  rw [List.length_set, List.map_set]
  exact this

theorem bits_xor_nat (k : IntKind) (j : Nat) (hj : j ≤ k.bits) (hk : ∀ n : Int, 0 ≤ n → n < 2 ^ j → k.wrap n = n) (a b : Nat) (ha : a < 2 ^ j) (hb : b < 2 ^ j) :
    bits .xor k a b = ((a ^^^ b : Nat) : Int) := by
  have hp : 2 ^ j ≤ 2 ^ k.bits := Nat.pow_le_pow_right (by decide) hj
  have ha' : a % 2 ^ k.bits = a := Nat.mod_eq_of_lt (Nat.lt_of_lt_of_le ha hp)
  have hb' : b % 2 ^ k.bits = b := Nat.mod_eq_of_lt (Nat.lt_of_lt_of_le hb hp)
  simp only [bits, BitVec.ofInt_natCast, BitVec.toNat_xor, BitVec.toNat_ofNat, ha', hb']
  exact hk _ (Int.natCast_nonneg _) (by exact_mod_cast Nat.xor_lt_two_pow ha hb)

theorem xor_u8 (a b : Nat) (ha : a < 256) (hb : b < 256) : bits .xor .u8 (a : Int) (b : Int) = ((a ^^^ b : Nat) : Int) :=
  bits_xor_nat .u8 8 (by decide) wraps_u8 a b ha hb
/-- Append where there is room: in place. -/
theorem run_append_room {P : Program} (w : World) (t u ty e : TypeId) (i : TypeInfo) (size : Nat) (ht : P.underlying t = some (.slice e)) (du : TypeDesc) (hu : P.underlying u = some du) (hud : du = .string ∨ ∃ e', du = .slice e')
    (hi : P.info? e = some i) (hsize : i.size = size) (g o n cap : Nat) (cur : Array Value) (hg : w.heap[g]? = some (.cells cur e (0, 0))) (hcs : o + cap * size ≤ cur.size)
    (x : Value) (m : Nat) (news : List Value) (hlen : ∀ w, (Builtin.lenOf x).run P w = .ok m w) (hl : news.length = m * size)
    (hc : (Builtin.firstCells size m x).run P w = .ok news.toArray w) (h1 : ∀ u ∈ news, u.oneCell' = true) (hroom : n + m ≤ cap) :
    (Builtin.append_ #[t, u] ty #[.slice (some ⟨g, o, none⟩) n cap, x]).run P w = .ok (.slice (some ⟨g, o, none⟩) (n + m) cap) (w.setRow g (cur.toList.take (o + n * size) ++ news ++ cur.toList.drop (o + n * size + news.length)).toArray) := by
  subst hsize
  have hl1 := hlen w
  have hfit : o + n * i.size + news.length ≤ cur.size := by
    rw [hl]
    have : (n + m) * i.size ≤ cap * i.size := Nat.mul_le_mul_right _ hroom
    rw [Nat.add_mul] at this
    omega
  have hst := run_storeCells_at P g (o + n * i.size) e news 0 cur w hg (by simpa using hfit) h1
  simp only [Nat.add_zero] at hst
  rcases hud with rfl | ⟨e', rfl⟩ <;> simp [Builtin.append_, run_underlying ht, run_underlying hu, sizeOf, typeInfo, hi, hl1, hroom, hc, Addr.add_lit, hst]

/-- 'clear(s)' of structs. -/
theorem run_clear_row {P : Program} (w : World) (t e ty : TypeId) (z : Value) (zs : List Value) (ht : P.underlying t = some (.slice e)) (hv : ∀ w, (zeroValue e).run P w = .ok z w) (n : Nat) (hn : 0 < n) (hzs : (Builtin.zeroCells z.cells n).toList = zs) (h1 : ∀ u ∈ zs, u.oneCell' = true)
    (g o c : Nat) (cur : Array Value) (hg : w.heap[g]? = some (.cells cur e (0, 0))) (hfit : o + zs.length ≤ cur.size) :
    (Builtin.clear_ #[t] ty #[.slice (some ⟨g, o, none⟩) n c]).run P w = .ok (.tuple #[]) (w.setRow g (cur.toList.take o ++ zs ++ cur.toList.drop (o + zs.length)).toArray) := by
  have hst := run_storeCells_at P g o e zs 0 cur w hg (by simpa using hfit) h1
  simp only [Nat.add_zero] at hst
  obtain ⟨m, rfl⟩ : ∃ m, n = m + 1 := ⟨n - 1, by omega⟩
  simp [Builtin.clear_, run_underlying ht, hv, hzs, hst]

theorem Fr.setRow0 {S : Nat → Prop} {w0 w : World} (f : Fr S w0 w) {g : Nat} (hg : g < w0.heap.size → S g) (cs : Array Value) : Fr S w0 (w.setRow g cs) :=
  ⟨f.os, f.tape, f.output, by have := f.size; simpa [World.setRow] using this, fun k hk hs => by
    rw [setRow_other _ _ _ _ (fun e => hs (by subst e; exact hg hk))]; exact f.block k hk hs⟩
set_option maxHeartbeats 400000 in
theorem bclone_any (v : Value) (l : List UInt8) (w : World) (h : Sees w v l) (hl : l.length ≤ 140737488351232) :
    Calls Try.prog 20 #[v] w fun e w' => ∃ v', e = .returned v' ∧ Own w' v' l ∧ Fr (fun _ => False) w w' ∧ (∀ k, v'.ownBlock = some k → w.heap.size ≤ k) := by
  obtain ⟨i0, hi, hz0, hz1, hz2⟩ := info_parts Try.infoU8
  obtain ⟨a, c, rfl, hn⟩ := h.shape
  have q1 : ∀ (w : World) (a : Option Addr) (n c : Nat), (binOp .eql 30 (.slice a n c) (.slice none 0 0)).run Try.prog w = .ok (.bool a.isNone) w := fun w a n c => Lib.run_eql_slice_nil w _ _ a n c 0 0 Try.underlying30
  cases a with
  | none =>
    have hl := hn rfl
    subst hl
    go_enter Try.func20, Try.ntmps20
    go_wp2
    go_ret
    exact ⟨_, rfl, World.ownsRow_nil _ _ _ _, Fr.refl _ _, fun k hk => by cases hk⟩
  | some a =>
    have Hn := Lib.hid hn; clear hn
    go_enter Try.func20, Try.ntmps20
    go_wp2_with (at_builtin; refine wpList_append_sep rfl (.tmp 5) (.tmp 6) 30 30 rfl 0 5 i0 (.int .u8 0) 1 1 Try.underlying30 _ Try.underlying30 (.inr ⟨_, rfl⟩) hi hz0 hz1 hz2 rfl (by decide) (.slice (some ⟨w.heap.size, 0, none⟩) 0 0) 0 [] rfl ?own _ l.length (l.map bv) rfl (lenOf_slice _ _ _) (by simp) ?c1 ?c2 (bv_one _) ?b1 ?b2 (Nat.zero_le _) ?grow)
    case own => exact World.ownsRow_made w #[] 0 (Nat.zero_le _) (by unfold maxLen; omega) rfl
    case c1 => exact (h.fr ((Fr.refl (fun _ => False) w).alloc _) (fun _ _ h => h)).first
    case c2 => exact (h.fr ((Fr.refl (fun _ => False) w).alloc _) (fun _ _ h => h)).drew.first
    case b1 => unfold maxLen; omega
    case b2 => omega
    case grow =>
      intro v' w1 hown hg hv
      have Ho := Lib.hid hown
      have Hg := Lib.hid hg
      have Hv := Lib.hid hv
      clear hown hg hv
      go_wp2
      go_ret
      refine ⟨v', rfl, Ho.out, ?_, ?_⟩
      · exact ((Fr.refl _ _).alloc (.cells #[] 5)).trans (Fr.of_grown Hg.out) (fun i hi e => by simp [Value.ownBlock] at e; omega)
      · intro k hk
        rcases Hv.out with e | e
        · rw [e] at hk; simp [Value.ownBlock] at hk; omega
        · rw [e] at hk; simp at hk; omega
theorem flat_at {α : Type} (c : α → List Value) (n : Nat) (hc : ∀ x, (c x).length = n) : ∀ (l : List α) (i j : Nat) (x : α), l[i]? = some x → j < n → (l.flatMap c)[n * i + j]? = (c x)[j]?
  | [], i, _, _, h, _ => by simp at h
  | a :: l, 0, j, x, h, hj => by
    simp at h
    subst h
    rw [List.flatMap_cons, List.getElem?_append_left (by rw [hc]; omega)]
    simp
  | a :: l, i + 1, j, x, h, hj => by
    have ih := flat_at c n hc l i j x (by simpa using h) hj
    rw [List.flatMap_cons, List.getElem?_append_right (by rw [hc, Nat.mul_add]; omega), hc, ← ih]
    congr 1
    rw [Nat.mul_add]
    omega

theorem flat_len {α : Type} (c : α → List Value) (n : Nat) (hc : ∀ x, (c x).length = n) (l : List α) : (l.flatMap c).length = l.length * n := by
  induction l with
  | nil => simp
  | cons a l ih => rw [List.flatMap_cons, List.length_append, ih, hc, List.length_cons, Nat.add_mul]; omega

theorem flat_take {α : Type} (c : α → List Value) (n : Nat) (hc : ∀ x, (c x).length = n) : ∀ (l : List α) (i : Nat), (l.flatMap c).take (n * i) = (l.take i).flatMap c
  | [], i => by simp
  | a :: l, 0 => by simp
  | a :: l, i + 1 => by
    rw [List.flatMap_cons, List.take_succ_cons, List.flatMap_cons, ← flat_take c n hc l i, List.take_append, hc]
    rw [List.take_of_length_le (by rw [hc, Nat.mul_add]; omega)]
    congr 2
    rw [Nat.mul_add]
    omega

theorem flat_drop {α : Type} (c : α → List Value) (n : Nat) (hc : ∀ x, (c x).length = n) : ∀ (l : List α) (i : Nat), (l.flatMap c).drop (n * i) = (l.drop i).flatMap c
  | [], i => by simp
  | a :: l, 0 => by simp
  | a :: l, i + 1 => by
    rw [List.flatMap_cons, List.drop_succ_cons, ← flat_drop c n hc l i, List.drop_append, hc]
    rw [List.drop_of_length_le (by rw [hc, Nat.mul_add]; omega), List.nil_append]
    congr 1
    rw [Nat.mul_add]
    omega

/-- A flight's value, and its block. -/
abbrev flv (t : Int) (v : Value) (s : Bool) : Value := .agg #[.int .i64 t, v, .bool s]
abbrev oFl (t : Int) (v : Value) (s : Bool) : Obj := Obj.cells #[.int .i64 t, v, .bool s] 37 (0, 0)

set_option maxHeartbeats 4000000 in
/-- A flight with bytes of its own. -/
theorem apart_any (t : Int) (s : Bool) (v : Value) (l : List UInt8) (w : World) (h : Sees w v l) (hl : l.length ≤ 140737488351232) :
    Calls Try.prog 19 #[flv t v s] w fun x w' => ∃ v', x = .returned (flv t v' s) ∧ Made v' l w w' := by
  obtain ⟨a, c, rfl, hn⟩ := h.shape
  clear hn
  unfold flv
  go_enter Try.func19, Try.ntmps19
  go_wp2_with fail
  have q0 := new_two_fst w (oFl t (.slice a l.length c) s) (oFl 0 (.slice none 0 0) false)
  have q1 := new_two w (oFl t (.slice a l.length c) s) (oFl 0 (.slice none 0 0) false)
  have f0 : Fr (fun _ => False) w ((w.alloc (oFl t (.slice a l.length c) s)).alloc (oFl 0 (.slice none 0 0) false)) := ((Fr.refl _ _).alloc _).alloc _
  have hsz : ((w.alloc (oFl t (.slice a l.length c) s)).alloc (oFl 0 (.slice none 0 0) false)).heap.size = w.heap.size + 2 := by simp
  generalize (w.alloc (oFl t (.slice a l.length c) s)).alloc (oFl 0 (.slice none 0 0) false) = w0 at *
  generalize hg : w.heap.size = g at *
  have HG := Lib.hid hg
  clear hg
  refine (bclone_any (.slice a l.length c) l _ (h.fr f0 (fun _ _ h => h)) hl).mono ?_
  rintro x w1 ⟨v', rfl, ho, f1, hv⟩
  have p0 := crow_kept q0 f1 (fun h => h)
  have p1 := crow_kept q1 f1 (fun h => h)
  have F1 := Lib.hid (f0.trans f1 (fun _ _ h => h))
  have HO := Lib.hid ho
  rw [hsz] at hv
  have HV := Lib.hid hv
  clear q0 q1 f0 f1 ho hv hsz
  obtain ⟨a', c', rfl⟩ := slice_of_own HO.out
  obtain ⟨c0, c1, c2⟩ := cell3 p0
  obtain ⟨d0, d1, d2⟩ := cell3 p1
  have z0 : ∀ i, w1.frozen? ⟨g, i, none⟩ = false := by intro i; simp [World.frozen?, p0]
  have z1 : ∀ i, w1.frozen? ⟨g + 1, i, none⟩ = false := by intro i; simp [World.frozen?, p1]
  have P0 := Lib.hid p0
  have P1 := Lib.hid p1
  clear p0 p1
  go_wp2_with fail
  refine bodyPost_ret (results_cell_row rfl _ _ (g + 1) 37 #[.int .i64 t, .slice a' l.length c', .bool s] (0, 0) _ rfl ?hq Try.underlying37 rfl (by kernel_rfl)) rfl ?_
  case hq => exact cst3 (by rw [Below.heap_setCell _ _ _ _ (by simp)]; exact P1.out)
  have hne : ∀ k, (Value.slice a' l.length c').ownBlock = some k → ¬ (k = g ∨ k = g + 1) := by
    intro k hk
    have := HV.out k hk
    omega
  have fX : Fr (fun k => k = g ∨ k = g + 1) w1 (w1.setCell ⟨g, 1, none⟩ (.slice a' l.length c')) := (Fr.refl _ _).setCell (fun _ => .inl rfl) _
  have fY := cfr3 (b := g + 1) (.int .i64 t) (.slice a' l.length c') (.bool s) fX (fun _ => .inr rfl)
  refine ⟨_, rfl, HO.out.fr fY hne, F1.out.trans fY (fun k hk e => ?_), fun k hk => ?_⟩
  · have := HG.out; omega
  · have := HV.out k hk; have := HG.out; omega
end Go.Proofs.Ytojfabhbkdddpaa
