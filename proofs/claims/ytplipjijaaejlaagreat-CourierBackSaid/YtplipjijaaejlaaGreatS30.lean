/-
  CouBack, part 30 of what it rests on: KindTypeP, KindTypeQ.
-/
import Derived.Test.YtplipjijaaejlaaGreatS29
import Derived.Test.YtplipjijaaejlaaGreatS13
set_option linter.unusedVariables false
set_option linter.unusedSimpArgs false
set_option maxHeartbeats 64000000
namespace Go.Proofs.YtplipjijaaejlaaGreat
open Go.RowKit
open Go.Lib (hid)
section
/-- A node made a type, at one depth. -/
def TypeOne (known : List Txt) (t : KN) (d : Nat) : Prop := ∀ (R : Nat → Prop) (v vk : Value) (w : World) (dz : Int), dz = d → 1 ≤ d → d ≤ 100 → NShows w t v → Texts R w known vk →
  Calls Tryz.prog 17 #[v, .int .i64 dz, vk] w fun e w' => ∃ v', e = .returned v' ∧ Shows (fun k => w.heap.size ≤ k) w' (typeE known t d) v' ∧ Fr (fun _ => False) w w'

theorem heap_alloc_4 (w : World) (a b c x y : Obj) : (((((w.alloc a).alloc b).alloc c).alloc x).alloc y).heap[w.heap.size + 1 + 1 + 1]? = some x := by
  rw [Below.heap_alloc _ _ _ (by simp)]
  have := heap_alloc_new (((w.alloc a).alloc b).alloc c) x
  simpa using this

set_option maxRecDepth 100000 in
theorem type_k0 (known : List Txt) (kd n c : Nat) (of : Nat → KN) (d : Nat) (hkk : kd % 10 = 0) : TypeOne known (.mk kd n c of) d := by
  intro R v vk w dz hdz hd1 hd hsh hk
  obtain ⟨vo, rfl, hkd, hn, hc, ho⟩ := hsh
  obtain ⟨oa, on, oc, rfl⟩ : ∃ oa on oc, vo = .slice oa on oc := by
    rcases ho with ⟨_, aa, cap, rfl⟩ | ⟨g, off, cap, rfl, _⟩
    · exact ⟨aa, 0, cap, rfl⟩
    · exact ⟨_, c, cap, rfl⟩
  obtain ⟨ka, kc, rfl, hks⟩ := hk.shape
  have hl1 := hk.1
  have h10 : (kd : Int) % 10 = 0 := by omega
  have HT : Hid (typeE known (.mk kd n c of) d = .mk 0 0 [] 0 (fun _ => .nil)) := Lib.hid (by
    rw [typeE_mk]
    have e : kindE kd d known = 0 := by unfold kindE; rw [hkk]; simp
    rw [e]
    rfl)
  clear ho hk hks hkk hdz
  go_enter Tryz.func17, Tryz.ntmps17
  go_wp2
  all_goals refine bodyPost_ret (results_cell_row rfl _ _ (w.heap.size + 1 + 1 + 1) 34 _ _ _ rfl (heap_alloc_4 _ _ _ _ _ _) Tryz.underlying34 rfl (by kernel_rfl)) rfl ?_
  all_goals rw [HT.out]
  all_goals exact ⟨_, rfl, ⟨.slice none 0 0, .slice none 0 0, by simp, by omega, by omega, texts_none _ _ _ _, .inl ⟨rfl, _, _, rfl⟩⟩, (((((Fr.refl _ _).alloc _).alloc _).alloc _).alloc _).alloc _⟩

set_option maxRecDepth 100000 in
theorem type_k1 (known : List Txt) (kd n c : Nat) (of : Nat → KN) (d : Nat) (hkk : kd % 10 = 1) : TypeOne known (.mk kd n c of) d := by
  intro R v vk w dz hdz hd1 hd hsh hk
  obtain ⟨vo, rfl, hkd, hn, hc, ho⟩ := hsh
  obtain ⟨oa, on, oc, rfl⟩ : ∃ oa on oc, vo = .slice oa on oc := by
    rcases ho with ⟨_, aa, cap, rfl⟩ | ⟨g, off, cap, rfl, _⟩
    · exact ⟨aa, 0, cap, rfl⟩
    · exact ⟨_, c, cap, rfl⟩
  obtain ⟨ka, kc, rfl, hks⟩ := hk.shape
  have hl1 := hk.1
  have h10 : (kd : Int) % 10 = 1 := by omega
  have HT : Hid (typeE known (.mk kd n c of) d = .mk 1 0 [] 0 (fun _ => .nil)) := Lib.hid (by
    rw [typeE_mk]
    have e : kindE kd d known = 1 := by unfold kindE; rw [hkk]; simp
    rw [e]
    rfl)
  clear ho hk hks hkk hdz
  go_enter Tryz.func17, Tryz.ntmps17
  go_wp2
  all_goals refine bodyPost_ret (results_cell_row rfl _ _ (w.heap.size + 1 + 1 + 1) 34 _ _ _ rfl (heap_alloc_4 _ _ _ _ _ _) Tryz.underlying34 rfl (by kernel_rfl)) rfl ?_
  all_goals rw [HT.out]
  all_goals exact ⟨_, rfl, ⟨.slice none 0 0, .slice none 0 0, by simp, by omega, by omega, texts_none _ _ _ _, .inl ⟨rfl, _, _, rfl⟩⟩, (((((Fr.refl _ _).alloc _).alloc _).alloc _).alloc _).alloc _⟩

set_option maxRecDepth 100000 in
theorem type_k2 (known : List Txt) (kd n c : Nat) (of : Nat → KN) (d : Nat) (hkk : kd % 10 = 2) : TypeOne known (.mk kd n c of) d := by
  intro R v vk w dz hdz hd1 hd hsh hk
  obtain ⟨vo, rfl, hkd, hn, hc, ho⟩ := hsh
  obtain ⟨oa, on, oc, rfl⟩ : ∃ oa on oc, vo = .slice oa on oc := by
    rcases ho with ⟨_, aa, cap, rfl⟩ | ⟨g, off, cap, rfl, _⟩
    · exact ⟨aa, 0, cap, rfl⟩
    · exact ⟨_, c, cap, rfl⟩
  obtain ⟨ka, kc, rfl, hks⟩ := hk.shape
  have hl1 := hk.1
  have h10 : (kd : Int) % 10 = 2 := by omega
  have HT : Hid (typeE known (.mk kd n c of) d = .mk 2 0 [] 0 (fun _ => .nil)) := Lib.hid (by
    rw [typeE_mk]
    have e : kindE kd d known = 2 := by unfold kindE; rw [hkk]; simp
    rw [e]
    rfl)
  clear ho hk hks hkk hdz
  go_enter Tryz.func17, Tryz.ntmps17
  go_wp2
  all_goals refine bodyPost_ret (results_cell_row rfl _ _ (w.heap.size + 1 + 1 + 1) 34 _ _ _ rfl (heap_alloc_4 _ _ _ _ _ _) Tryz.underlying34 rfl (by kernel_rfl)) rfl ?_
  all_goals rw [HT.out]
  all_goals exact ⟨_, rfl, ⟨.slice none 0 0, .slice none 0 0, by simp, by omega, by omega, texts_none _ _ _ _, .inl ⟨rfl, _, _, rfl⟩⟩, (((((Fr.refl _ _).alloc _).alloc _).alloc _).alloc _).alloc _⟩

set_option maxRecDepth 100000 in
theorem type_k3 (known : List Txt) (kd n c : Nat) (of : Nat → KN) (d : Nat) (hkk : kd % 10 = 3) : TypeOne known (.mk kd n c of) d := by
  intro R v vk w dz hdz hd1 hd hsh hk
  obtain ⟨vo, rfl, hkd, hn, hc, ho⟩ := hsh
  obtain ⟨oa, on, oc, rfl⟩ : ∃ oa on oc, vo = .slice oa on oc := by
    rcases ho with ⟨_, aa, cap, rfl⟩ | ⟨g, off, cap, rfl, _⟩
    · exact ⟨aa, 0, cap, rfl⟩
    · exact ⟨_, c, cap, rfl⟩
  obtain ⟨ka, kc, rfl, hks⟩ := hk.shape
  have hl1 := hk.1
  have h10 : (kd : Int) % 10 = 3 := by omega
  have HT : Hid (typeE known (.mk kd n c of) d = .mk 3 0 [] 0 (fun _ => .nil)) := Lib.hid (by
    rw [typeE_mk]
    have e : kindE kd d known = 3 := by unfold kindE; rw [hkk]; simp
    rw [e]
    rfl)
  clear ho hk hks hkk hdz
  go_enter Tryz.func17, Tryz.ntmps17
  go_wp2
  all_goals refine bodyPost_ret (results_cell_row rfl _ _ (w.heap.size + 1 + 1 + 1) 34 _ _ _ rfl (heap_alloc_4 _ _ _ _ _ _) Tryz.underlying34 rfl (by kernel_rfl)) rfl ?_
  all_goals rw [HT.out]
  all_goals exact ⟨_, rfl, ⟨.slice none 0 0, .slice none 0 0, by simp, by omega, by omega, texts_none _ _ _ _, .inl ⟨rfl, _, _, rfl⟩⟩, (((((Fr.refl _ _).alloc _).alloc _).alloc _).alloc _).alloc _⟩

set_option maxRecDepth 100000 in
theorem type_k4 (known : List Txt) (kd n c : Nat) (of : Nat → KN) (d : Nat) (hkk : kd % 10 = 4) : TypeOne known (.mk kd n c of) d := by
  intro R v vk w dz hdz hd1 hd hsh hk
  obtain ⟨vo, rfl, hkd, hn, hc, ho⟩ := hsh
  obtain ⟨oa, on, oc, rfl⟩ : ∃ oa on oc, vo = .slice oa on oc := by
    rcases ho with ⟨_, aa, cap, rfl⟩ | ⟨g, off, cap, rfl, _⟩
    · exact ⟨aa, 0, cap, rfl⟩
    · exact ⟨_, c, cap, rfl⟩
  obtain ⟨ka, kc, rfl, hks⟩ := hk.shape
  have hl1 := hk.1
  have h10 : (kd : Int) % 10 = 4 := by omega
  have n60 : (0 : Int) ≤ (n : Int) % 60 ∧ (n : Int) % 60 ≤ 59 := by omega
  have N60 := Lib.hid n60
  clear n60
  have HT : Hid (typeE known (.mk kd n c of) d = .mk 4 (1 + (n % 60 : Nat)) [] 0 (fun _ => .nil)) := Lib.hid (by
    rw [typeE_mk]
    have e : kindE kd d known = 4 := by unfold kindE; rw [hkk]; simp
    rw [e]
    rfl)
  clear ho hk hks hkk hdz
  go_enter Tryz.func17, Tryz.ntmps17
  go_wp2
  all_goals refine bodyPost_ret (results_cell_row rfl _ _ (w.heap.size + 1 + 1 + 1) 34 _ _ _ rfl (heap_alloc_4 _ _ _ _ _ _) Tryz.underlying34 rfl (by kernel_rfl)) rfl ?_
  all_goals rw [HT.out]
  all_goals exact ⟨_, rfl, ⟨.slice none 0 0, .slice none 0 0, by simp, by omega, by omega, texts_none _ _ _ _, .inl ⟨rfl, _, _, rfl⟩⟩, (((((Fr.refl _ _).alloc _).alloc _).alloc _).alloc _).alloc _⟩

set_option maxRecDepth 100000 in
theorem type_d5 (known : List Txt) (kd n c : Nat) (of : Nat → KN) (d : Nat) (hd2 : d = 1) (hkk : kd % 10 = 5) : TypeOne known (.mk kd n c of) d := by
  intro R v vk w dz hdz hd1 hd hsh hk
  obtain ⟨vo, rfl, hkd, hn, hc, ho⟩ := hsh
  obtain ⟨oa, on, oc, rfl⟩ : ∃ oa on oc, vo = .slice oa on oc := by
    rcases ho with ⟨_, aa, cap, rfl⟩ | ⟨g, off, cap, rfl, _⟩
    · exact ⟨aa, 0, cap, rfl⟩
    · exact ⟨_, c, cap, rfl⟩
  obtain ⟨ka, kc, rfl, hks⟩ := hk.shape
  have hl1 := hk.1
  have h10 : (kd : Int) % 10 = 5 := by omega
  obtain rfl : dz = 1 := by omega
  have HT : Hid (typeE known (.mk kd n c of) d = .mk 1 0 [] 0 (fun _ => .nil)) := Lib.hid (by
    rw [typeE_mk]
    have e : kindE kd d known = 1 := by unfold kindE; rw [hkk]; simp [hd2]
    rw [e]
    rfl)
  clear ho hk hks hkk hdz hd2 hd1 hd
  go_enter Tryz.func17, Tryz.ntmps17
  go_wp2
  all_goals refine bodyPost_ret (results_cell_row rfl _ _ (w.heap.size + 1 + 1 + 1) 34 _ _ _ rfl (heap_alloc_4 _ _ _ _ _ _) Tryz.underlying34 rfl (by kernel_rfl)) rfl ?_
  all_goals rw [HT.out]
  all_goals exact ⟨_, rfl, ⟨.slice none 0 0, .slice none 0 0, by simp, by omega, by omega, texts_none _ _ _ _, .inl ⟨rfl, _, _, rfl⟩⟩, (((((Fr.refl _ _).alloc _).alloc _).alloc _).alloc _).alloc _⟩

set_option maxRecDepth 100000 in
theorem type_d6 (known : List Txt) (kd n c : Nat) (of : Nat → KN) (d : Nat) (hd2 : d = 1) (hkk : kd % 10 = 6) : TypeOne known (.mk kd n c of) d := by
  intro R v vk w dz hdz hd1 hd hsh hk
  obtain ⟨vo, rfl, hkd, hn, hc, ho⟩ := hsh
  obtain ⟨oa, on, oc, rfl⟩ : ∃ oa on oc, vo = .slice oa on oc := by
    rcases ho with ⟨_, aa, cap, rfl⟩ | ⟨g, off, cap, rfl, _⟩
    · exact ⟨aa, 0, cap, rfl⟩
    · exact ⟨_, c, cap, rfl⟩
  obtain ⟨ka, kc, rfl, hks⟩ := hk.shape
  have hl1 := hk.1
  have h10 : (kd : Int) % 10 = 6 := by omega
  obtain rfl : dz = 1 := by omega
  have HT : Hid (typeE known (.mk kd n c of) d = .mk 1 0 [] 0 (fun _ => .nil)) := Lib.hid (by
    rw [typeE_mk]
    have e : kindE kd d known = 1 := by unfold kindE; rw [hkk]; simp [hd2]
    rw [e]
    rfl)
  clear ho hk hks hkk hdz hd2 hd1 hd
  go_enter Tryz.func17, Tryz.ntmps17
  go_wp2
  all_goals refine bodyPost_ret (results_cell_row rfl _ _ (w.heap.size + 1 + 1 + 1) 34 _ _ _ rfl (heap_alloc_4 _ _ _ _ _ _) Tryz.underlying34 rfl (by kernel_rfl)) rfl ?_
  all_goals rw [HT.out]
  all_goals exact ⟨_, rfl, ⟨.slice none 0 0, .slice none 0 0, by simp, by omega, by omega, texts_none _ _ _ _, .inl ⟨rfl, _, _, rfl⟩⟩, (((((Fr.refl _ _).alloc _).alloc _).alloc _).alloc _).alloc _⟩

set_option maxRecDepth 100000 in
theorem type_d8 (known : List Txt) (kd n c : Nat) (of : Nat → KN) (d : Nat) (hd2 : d = 1) (hkk : kd % 10 = 8) : TypeOne known (.mk kd n c of) d := by
  intro R v vk w dz hdz hd1 hd hsh hk
  obtain ⟨vo, rfl, hkd, hn, hc, ho⟩ := hsh
  obtain ⟨oa, on, oc, rfl⟩ : ∃ oa on oc, vo = .slice oa on oc := by
    rcases ho with ⟨_, aa, cap, rfl⟩ | ⟨g, off, cap, rfl, _⟩
    · exact ⟨aa, 0, cap, rfl⟩
    · exact ⟨_, c, cap, rfl⟩
  obtain ⟨ka, kc, rfl, hks⟩ := hk.shape
  have hl1 := hk.1
  have h10 : (kd : Int) % 10 = 8 := by omega
  obtain rfl : dz = 1 := by omega
  have HT : Hid (typeE known (.mk kd n c of) d = .mk 1 0 [] 0 (fun _ => .nil)) := Lib.hid (by
    rw [typeE_mk]
    have e : kindE kd d known = 1 := by unfold kindE; rw [hkk]; simp [hd2]
    rw [e]
    rfl)
  clear ho hk hks hkk hdz hd2 hd1 hd
  go_enter Tryz.func17, Tryz.ntmps17
  go_wp2
  all_goals refine bodyPost_ret (results_cell_row rfl _ _ (w.heap.size + 1 + 1 + 1) 34 _ _ _ rfl (heap_alloc_4 _ _ _ _ _ _) Tryz.underlying34 rfl (by kernel_rfl)) rfl ?_
  all_goals rw [HT.out]
  all_goals exact ⟨_, rfl, ⟨.slice none 0 0, .slice none 0 0, by simp, by omega, by omega, texts_none _ _ _ _, .inl ⟨rfl, _, _, rfl⟩⟩, (((((Fr.refl _ _).alloc _).alloc _).alloc _).alloc _).alloc _⟩

set_option maxRecDepth 100000 in
theorem type_e9 (known : List Txt) (kd n c : Nat) (of : Nat → KN) (d : Nat) (hl : known.length = 0) (hkk : kd % 10 = 9) : TypeOne known (.mk kd n c of) d := by
  intro R v vk w dz hdz hd1 hd hsh hk
  obtain ⟨vo, rfl, hkd, hn, hc, ho⟩ := hsh
  obtain ⟨oa, on, oc, rfl⟩ : ∃ oa on oc, vo = .slice oa on oc := by
    rcases ho with ⟨_, aa, cap, rfl⟩ | ⟨g, off, cap, rfl, _⟩
    · exact ⟨aa, 0, cap, rfl⟩
    · exact ⟨_, c, cap, rfl⟩
  obtain ⟨ka, kc, rfl, hks⟩ := hk.shape
  have hl1 := hk.1
  have h10 : (kd : Int) % 10 = 9 := by omega
  rw [hl]
  have HT : Hid (typeE known (.mk kd n c of) d = .mk 1 0 [] 0 (fun _ => .nil)) := Lib.hid (by
    rw [typeE_mk]
    have e : kindE kd d known = 1 := by unfold kindE; rw [hkk]; simp [hl]
    rw [e]
    rfl)
  clear ho hk hks hkk hdz hl
  go_enter Tryz.func17, Tryz.ntmps17
  go_wp2
  all_goals refine bodyPost_ret (results_cell_row rfl _ _ (w.heap.size + 1 + 1 + 1) 34 _ _ _ rfl (heap_alloc_4 _ _ _ _ _ _) Tryz.underlying34 rfl (by kernel_rfl)) rfl ?_
  all_goals rw [HT.out]
  all_goals exact ⟨_, rfl, ⟨.slice none 0 0, .slice none 0 0, by simp, by omega, by omega, texts_none _ _ _ _, .inl ⟨rfl, _, _, rfl⟩⟩, (((((Fr.refl _ _).alloc _).alloc _).alloc _).alloc _).alloc _⟩
end
section
/-- What the function keeps in blocks of its own: the node, how deep, what is known, the result. -/
def Boxes (w : World) (nv : Array Value) (dz : Int) (kv : Value) (wx : World) : Prop :=
  Fr (fun _ => False) w wx ∧ wx.heap[w.heap.size]? = some (.cells nv 24 (0, 0)) ∧ wx.heap[w.heap.size + 1]? = some (.cells #[.int .i64 dz] 3 (0, 0)) ∧ wx.heap[w.heap.size + 1 + 1]? = some (.cells #[kv] 31 (0, 0)) ∧
  wx.heap[w.heap.size + 1 + 1 + 1]? = some (.cells #[.int .u8 0, .int .i64 0, .slice none 0 0, .slice none 0 0] 34 (0, 0))

theorem Boxes.fr {w wx wy : World} {nv : Array Value} {dz : Int} {kv : Value} {S : Nat → Prop} (h : Boxes w nv dz kv wx) (f : Fr S wx wy) (hS : ∀ k, S k → w.heap.size + 1 + 1 + 1 < k) : Boxes w nv dz kv wy := by
  obtain ⟨h0, h1, h2, h3, h4⟩ := h
  exact ⟨h0.trans f (fun i hi s => by have := hS i s; omega), box_kept h1 f (fun s => by have := hS _ s; omega), box_kept h2 f (fun s => by have := hS _ s; omega), box_kept h3 f (fun s => by have := hS _ s; omega), box_kept h4 f (fun s => by have := hS _ s; omega)⟩

theorem Boxes.drew {w wx : World} {nv : Array Value} {dz : Int} {kv : Value} (h : Boxes w nv dz kv wx) : Boxes w nv dz kv wx.drew := ⟨h.1.drew, h.2⟩

theorem boxes_new (w : World) (nv : Array Value) (dz : Int) (kv : Value) (y : Array Value) :
    Boxes w nv dz kv (((((w.alloc (.cells nv 24)).alloc (.cells #[.int .i64 dz] 3)).alloc (.cells #[kv] 31)).alloc (.cells #[.int .u8 0, .int .i64 0, .slice none 0 0, .slice none 0 0] 34)).alloc (.cells y 34)) ∧
    (((((w.alloc (.cells nv 24)).alloc (.cells #[.int .i64 dz] 3)).alloc (.cells #[kv] 31)).alloc (.cells #[.int .u8 0, .int .i64 0, .slice none 0 0, .slice none 0 0] 34)).alloc (.cells y 34)).heap[w.heap.size + 1 + 1 + 1 + 1]? = some (.cells y 34 (0, 0)) := by
  refine ⟨⟨(((((Fr.refl _ _).alloc _).alloc _).alloc _).alloc _).alloc _, ?_, ?_, ?_, heap_alloc_4 _ _ _ _ _ _⟩, ?_⟩
  · rw [Below.heap_alloc _ _ _ (by simp <;> omega), Below.heap_alloc _ _ _ (by simp <;> omega), Below.heap_alloc _ _ _ (by simp <;> omega), Below.heap_alloc _ _ _ (by simp)]
    exact heap_alloc_new _ _
  · rw [Below.heap_alloc _ _ _ (by simp <;> omega), Below.heap_alloc _ _ _ (by simp <;> omega), Below.heap_alloc _ _ _ (by simp)]
    exact heap_alloc_two _ _ _
  · rw [Below.heap_alloc _ _ _ (by simp <;> omega), Below.heap_alloc _ _ _ (by simp)]
    have := heap_alloc_new ((w.alloc (.cells nv 24)).alloc (.cells #[.int .i64 dz] 3)) (.cells #[kv] 31)
    simpa using this
  · have := heap_alloc_new ((((w.alloc (.cells nv 24)).alloc (.cells #[.int .i64 dz] 3)).alloc (.cells #[kv] 31)).alloc (.cells #[.int .u8 0, .int .i64 0, .slice none 0 0, .slice none 0 0] 34)) (.cells y 34)
    simpa using this

/-- One type in a new block of its own. -/
def One (B : Nat) (T : KT) (u : Value) (wx : World) : Prop := ∃ gl y0 y1 y2 y3, u = .slice (some ⟨gl, 0, none⟩) 1 1 ∧ B ≤ gl ∧ wx.heap[gl]? = some (.cells #[y0, y1, y2, y3] 34 (0, 0)) ∧ Shows (fun k => B ≤ k) wx T (.agg #[y0, y1, y2, y3])

theorem One.fr {B : Nat} {T : KT} {u : Value} {wx wy : World} {S : Nat → Prop} (h : One B T u wx) (f : Fr S wx wy) (hS : ∀ k, B ≤ k → ¬ S k) : One B T u wy := by
  obtain ⟨gl, y0, y1, y2, y3, rfl, h1, h2, h3⟩ := h
  exact ⟨gl, y0, y1, y2, y3, rfl, h1, box_kept h2 f (hS _ h1), Shows.fr f hS _ _ h3⟩

theorem mode_gc : (Region.Mode.any == Region.Mode.gc) = false := rfl

/-- The local type: its number and its parts are still to come, or are there. -/
def Loc (b : Nat) (wx : World) : Prop := ∃ x y, wx.heap[b]? = some (.cells #[.int .u8 5, x, .slice none 0 0, y] 34 (0, 0))

def LocLe (b : Nat) (a c : World) : Prop := Fr (fun k => k = b) a c ∧ (Loc b a → Loc b c)

theorem LocLe.refl (b : Nat) (a : World) : LocLe b a a := ⟨Fr.refl _ _, fun h => h⟩

theorem LocLe.of_fr {b : Nat} {a c : World} (f : Fr (fun _ => False) a c) : LocLe b a c := ⟨f.mono (fun _ _ h => absurd h (fun h => h)), fun ⟨x, y, h⟩ => ⟨x, y, box_kept h f (fun h => h)⟩⟩

set_option maxRecDepth 100000 in
theorem type_seq (known : List Txt) (kd n c : Nat) (of : Nat → KN) (d : Nat) (ih : ∀ i, TypeAt known (of i)) (hd2 : 2 ≤ d) (hkk : kd % 10 = 5) : TypeOne known (.mk kd n c of) d := by
  intro R v vk w dz hdz hd1 hd hsh hk
  have hsh0 := hsh
  obtain ⟨vo, rfl, hkd, hn, hc, ho⟩ := hsh
  obtain ⟨oa, on, oc, rfl⟩ : ∃ oa on oc, vo = .slice oa on oc := by
    rcases ho with ⟨_, aa, cap, rfl⟩ | ⟨g, off, cap, rfl, _⟩
    · exact ⟨aa, 0, cap, rfl⟩
    · exact ⟨_, c, cap, rfl⟩
  obtain ⟨ka, kc, rfl, hks⟩ := hk.shape
  have hl1 := hk.1
  have h10 : (kd : Int) % 10 = 5 := by omega
  have n0 : (0 : Int) ≤ (n : Int) := by omega
  have n1 : (n : Int) ≤ 255 := by omega
  have HSUB := Lib.hid (fun (wx : World) (hb : Boxes w #[.int .u8 kd, .int .u8 n, .slice oa on oc] dz (.slice ka known.length kc) wx) (i : Nat) (hi : i ≤ 100) => sub_any known kd n c of ih R (.slice oa on oc) (.slice ka known.length kc) wx d dz w.heap.size (w.heap.size + 1) (w.heap.size + 1 + 1) i hi hdz hd2 hd hb.2.1 hb.2.2.1 hb.2.2.2.1 (NShows.fr hb.1 _ _ hsh0) (hk.fr hb.1 (fun _ _ h => h)))
  have z1 : ¬ dz ≤ 1 := by omega
  obtain ⟨q, hq⟩ : ∃ q : Int, (n : Int) % 60 = q := ⟨_, rfl⟩
  have q0 : 0 ≤ q := by omega
  have q1 : q ≤ 59 := by omega
  have g1 : IntKind.i64.wrap q = q := IntWalk.i64_in _ (by omega)
  have g2 : wrap64 q = q := IntWalk.wrap64_in _ (by omega)
  have g3 : IntKind.i64.wrap (1 + q) = 1 + q := IntWalk.i64_in _ (by omega)
  have g4 : wrap64 (1 + q) = 1 + q := IntWalk.wrap64_in _ (by omega)
  have g5 : q % 256 = q := by omega
  have g6 : Int.tmod (n : Int) 60 = q := by rw [Int.tmod_eq_emod_of_nonneg n0]; exact hq
  have HT : Hid (typeE known (.mk kd n c of) d = .mk 5 (1 + q) [] 1 (fun _ => subE known c of d 0)) := Lib.hid (by
    rw [typeE_mk]
    have e : kindE kd d known = 5 := by unfold kindE; rw [hkk]; simp; omega
    rw [e, ← hq]
    rfl)
  clear ho hk hks hkk hdz hsh0 hd1 hd hd2 ih
  go_enter Tryz.func17, Tryz.ntmps17
  go_wp2_with fail
  obtain ⟨hB, hL⟩ := boxes_new w #[.int .u8 kd, .int .u8 n, .slice oa on oc] dz (.slice ka known.length kc) #[.int .u8 5, .int .i64 0, .slice none 0 0, .slice none 0 0]
  obtain ⟨w5, hw5⟩ : ∃ w5, w5 = (((((w.alloc (.cells #[.int .u8 kd, .int .u8 n, .slice oa on oc] 24)).alloc (.cells #[.int .i64 dz] 3)).alloc (.cells #[(.slice ka known.length kc)] 31)).alloc (.cells #[.int .u8 0, .int .i64 0, .slice none 0 0, .slice none 0 0] 34)).alloc (.cells #[.int .u8 5, .int .i64 0, .slice none 0 0, .slice none 0 0] 34)) := ⟨_, rfl⟩
  rw [← hw5] at hB hL ⊢
  have HB := Lib.hid (And.intro hB hL)
  clear hB hL hw5
  obtain ⟨b4, hb4⟩ : ∃ b4, b4 = w.heap.size + 1 + 1 + 1 + 1 := ⟨_, rfl⟩
  rw [← hb4] at HB ⊢
  have HB4 := Lib.hid hb4
  clear hb4
  have HQ := Lib.hid (fun (wx : World) (h : LocLe b4 w5.drew wx) => And.intro (HB.out.1.drew.fr h.1 (fun k hk => by have := HB4.out; omega)) (h.2 ⟨_, _, HB.out.2⟩))
  refine wp_region_toldU (by kernel_rfl) (fun a b => LocLe b4 a b) (LocLe.refl b4) (fun a b c h k => ⟨h.1.trans k.1 (fun _ _ h => h), fun s => k.2 (h.2 s)⟩)
    [some 51, some 52, some 53, some 54, some 55, some 56, some 57, some 58, some 59, none, some 60, none] rfl (by decide) (by intro d hd; simp at hd ⊢; omega)
    (fun _ _ => True)
    (fun i v wx => ([fun v _ => v = .pointer (some ⟨w.heap.size, 1, none⟩), fun v _ => v = .int .u8 n, fun v _ => v = .int .u8 (q), fun v _ => v = .int .i64 (q), fun v _ => v = (.int .i64 (1 + q)),
      fun v _ => v = .func (.func 37) #[] #[.pointer (some ⟨w.heap.size, 0, none⟩), .pointer (some ⟨w.heap.size + 1, 0, none⟩), .pointer (some ⟨w.heap.size + 1 + 1, 0, none⟩)],
      fun v wx => Shows (fun k => b4 + 1 ≤ k) wx (subE known c of d 0) v, fun v wx => One (b4 + 1) (subE known c of d 0) v wx, fun v _ => v = .pointer (some ⟨b4, 1, none⟩),
      fun _ wx => ∃ y, wx.heap[b4]? = some (.cells #[.int .u8 5, .int .i64 (1 + q), .slice none 0 0, y] 34 (0, 0)), fun v _ => v = .pointer (some ⟨b4, 3, none⟩),
      fun _ wx => ∃ x u, wx.heap[b4]? = some (.cells #[.int .u8 5, x, .slice none 0 0, u] 34 (0, 0)) ∧ One (b4 + 1) (subE known c of d 0) u wx] : List (Value → World → Prop)).getD i (fun _ _ => True) v wx)
    (by kernel_rfl) ?u0 ?step ?fin
  case u0 => exact fun _ _ => trivial
  case step =>
    intro vals
    simp only [frOfU, fillU, List.setIfInBounds_toArray, List.set_cons_succ, List.set_cons_zero]
    repeat' (first | exact AllOps.nil | refine AllOps.cons ?_ ?_)
    all_goals
      intro wx hle he hu hw K hK
      clear hu hw
      simp only [Act.put, List.setIfInBounds_toArray, List.set_cons_succ, List.set_cons_zero, List.getD_cons_zero, List.getD_cons_succ] at hK
      simp only [List.mem_cons, List.not_mem_nil, or_false, forall_eq_or_imp, forall_eq, Region.binds, forall_const, mode_gc, Bool.false_eq_true, false_imp_iff, true_and, and_true, List.getD_cons_zero, List.getD_cons_succ] at he
      obtain ⟨hbx, hloc⟩ := HQ.out wx hle
      have r1 := cells_row hbx.2.1 1 _ rfl
      simp only [List.getElem_toArray, List.getElem_cons_succ, List.getElem_cons_zero] at r1
      obtain ⟨lx, ly, hl⟩ := hloc
      have HX := Lib.hid (And.intro hbx hl)
      have z1' : wx.frozen? ⟨b4, 1, none⟩ = false := by simp [World.frozen?, hl]
      have z3' : wx.frozen? ⟨b4, 3, none⟩ = false := by simp [World.frozen?, hl]
      obtain ⟨e0, e1, e2, e3⟩ := cell_of_four hl
      clear hle hbx hl
    all_goals first | ((try simp only [he] at hK ⊢); go_simp; exact hK _ _ (LocLe.refl _ _) rfl (fun _ _ h => h) (fun _ _ _ h => h)) | skip
    · simp only [he] at hK ⊢
      go_simp
      go_at_call 37
      refine (HSUB.out wx HX.out.1 0 (by omega)).mono ?_
      rintro q1 wa ⟨v', rfl, hsv, fa⟩
      have fb : Fr (fun _ => False) wx wa := fa
      refine hK _ _ (LocLe.of_fr fb) (Shows.mono (fun k _ hk => ?_) _ _ hsv) (fun _ _ h => h) (fun j u _ => pres_list ?_ j u)
      · have := lt_of_block HX.out.2
        omega
      · simp only [List.mem_cons, List.not_mem_nil, or_false, forall_eq_or_imp, forall_eq, imp_self, implies_true, true_and, and_true]
        refine ⟨fun u h => Shows.fr fb (fun _ _ h => h) _ _ h, fun u h => One.fr h fb (fun _ _ h => h), fun u h => ?_, fun u h => ?_⟩
        · obtain ⟨y, h⟩ := h
          exact ⟨y, box_kept h fb (fun h => h)⟩
        · obtain ⟨x, y, h, h'⟩ := h
          exact ⟨x, y, box_kept h fb (fun h => h), h'.fr fb (fun _ _ h => h)⟩
    · obtain ⟨tk, tm, ta, tn, tc, ta', tn', tc', e6⟩ := he.four
      rw [e6] at he
      simp only [e6] at hK ⊢
      go_simp
      have fb : Fr (fun _ => False) wx (wx.alloc (.cells #[.int .u8 tk, .int .i64 tm, .slice ta tn tc, .slice ta' tn' tc'] 34)) := (Fr.refl _ _).alloc _
      have hlb := lt_of_block HX.out.2
      refine hK _ _ (LocLe.of_fr fb) ⟨_, _, _, _, _, rfl, by omega, heap_alloc_new _ _, Shows.fr fb (fun _ _ h => h) _ _ he⟩ (fun _ _ h => h) (fun j u _ => pres_list ?_ j u)
      simp only [List.mem_cons, List.not_mem_nil, or_false, forall_eq_or_imp, forall_eq, imp_self, implies_true, true_and, and_true]
      refine ⟨fun u h => Shows.fr fb (fun _ _ h => h) _ _ h, fun u h => One.fr h fb (fun _ _ h => h), fun u h => ?_, fun u h => ?_⟩
      · obtain ⟨y, h⟩ := h
        exact ⟨y, box_kept h fb (fun h => h)⟩
      · obtain ⟨x, y, h, h'⟩ := h
        exact ⟨x, y, box_kept h fb (fun h => h), h'.fr fb (fun _ _ h => h)⟩
    · have h8 := he.1
      have h4 := he.2.1
      clear he
      simp only [h8, h4] at hK ⊢
      go_simp
      have f8 : Fr (fun k => k = b4) wx (wx.setCell ⟨b4, 1, none⟩ (.int .i64 (1 + q))) := Fr.set1 (Fr.refl _ _) 1 _
      have g8 := setCell_row 1 (.int .i64 (1 + q)) HX.out.2
      refine hK undef _ ⟨f8, fun _ => ⟨_, _, g8⟩⟩ ⟨_, g8⟩ (fun _ _ h => h) (fun j u _ => pres_list ?_ j u)
      simp only [List.mem_cons, List.not_mem_nil, or_false, forall_eq_or_imp, forall_eq, imp_self, implies_true, true_and, and_true]
      refine ⟨fun u h => Shows.fr f8 (fun k hk e => by omega) _ _ h, fun u h => One.fr h f8 (fun k hk e => by omega), fun u h => ⟨_, g8⟩, fun u h => ?_⟩
      obtain ⟨x, y, h, h'⟩ := h
      have := h.symm.trans HX.out.2
      simp at this
      obtain ⟨rfl, rfl⟩ := this
      exact ⟨_, _, g8, h'.fr f8 (fun k hk e => by omega)⟩
    · have h10 := he.1
      have h7 := he.2.1
      clear he
      obtain ⟨gl, y0, y1, y2, y3, e7, hgl, hgc, hgs⟩ := h7
      have HG := Lib.hid (And.intro hgl (And.intro hgc hgs))
      clear hgl hgc hgs
      simp only [h10, e7] at hK ⊢
      go_simp
      have f8 : Fr (fun k => k = b4) wx (wx.setCell ⟨b4, 3, none⟩ (.slice (some ⟨gl, 0, none⟩) 1 1)) := Fr.set1 (Fr.refl _ _) 3 _
      have g8 := setCell_row 3 (.slice (some ⟨gl, 0, none⟩) 1 1) HX.out.2
      have hone : One (b4 + 1) (subE known c of d 0) (.slice (some ⟨gl, 0, none⟩) 1 1) wx := ⟨gl, y0, y1, y2, y3, rfl, HG.out.1, HG.out.2.1, HG.out.2.2⟩
      refine hK undef _ ⟨f8, fun _ => ⟨_, _, g8⟩⟩ ⟨_, _, g8, hone.fr f8 (fun k hk e => by omega)⟩ (fun _ _ h => h) (fun j u _ => pres_list ?_ j u)
      simp only [List.mem_cons, List.not_mem_nil, or_false, forall_eq_or_imp, forall_eq, imp_self, implies_true, true_and, and_true]
      refine ⟨fun u h => Shows.fr f8 (fun k hk e => by omega) _ _ h, fun u h => One.fr h f8 (fun k hk e => by omega), fun u h => ?_, fun u h => ?_⟩
      · obtain ⟨y, h⟩ := h
        have := h.symm.trans HX.out.2
        simp at this
        obtain ⟨rfl, rfl⟩ := this
        exact ⟨_, g8⟩
      · exact ⟨_, _, g8, hone.fr f8 (fun k hk e => by omega)⟩
  case fin =>
    intro vals w' hle hV
    obtain ⟨y, h9⟩ := hV 9 (by decide)
    obtain ⟨x, u, h11, hone⟩ := hV 11 (by decide)
    have := h9.symm.trans h11
    simp at this
    obtain ⟨rfl, rfl⟩ := this
    clear hV h9
    have HF := Lib.hid (And.intro (HQ.out w' hle).1 (And.intro h11 hone))
    obtain ⟨gl, y0, y1, y2, y3, rfl, hgl, hgc, hgs⟩ := hone
    obtain ⟨e0, e1, e2, e3⟩ := cell_of_four h11
    have q3 := HF.out.1.2.2.2.2
    have z0 : w'.frozen? ⟨w.heap.size + 1 + 1 + 1, 0, none⟩ = false := by simp [World.frozen?, q3]
    have z1' : w'.frozen? ⟨w.heap.size + 1 + 1 + 1, 1, none⟩ = false := by simp [World.frozen?, q3]
    have z2' : w'.frozen? ⟨w.heap.size + 1 + 1 + 1, 2, none⟩ = false := by simp [World.frozen?, q3]
    have z3' : w'.frozen? ⟨w.heap.size + 1 + 1 + 1, 3, none⟩ = false := by simp [World.frozen?, q3]
    obtain ⟨i0, i1, i2, i3⟩ := cell_of_four q3
    have HG := Lib.hid (And.intro hgl (And.intro hgc hgs))
    clear hgl hgc hgs hle h11 q3
    simp only [frOfU, fillU, List.setIfInBounds_toArray, List.set_cons_succ, List.set_cons_zero]
    go_wp2
    refine bodyPost_ret (results_cell_row rfl _ _ (w.heap.size + 1 + 1 + 1) 34 _ _ _ rfl (store_four HF.out.1.2.2.2.2) Tryz.underlying34 rfl (by kernel_rfl)) rfl ?_
    rw [HT.out]
    have hb4 := HB4.out
    refine ⟨_, rfl, ?_, fr_four _ _ _ _ HF.out.1.1 (fun h => by omega)⟩
    refine Shows.mono (fun k _ (h : b4 + 1 ≤ k) => (by omega : w.heap.size ≤ k)) _ _ (Shows.fr (S := fun k => k = w.heap.size + 1 + 1 + 1) (fr_four (w := w') _ _ _ _ (Fr.refl _ _) (fun _ => rfl)) (fun k (hk : b4 + 1 ≤ k) e => by omega) _ _ ?_)
    refine ⟨_, _, rfl, by omega, by omega, texts_none _ _ _ _, .inr ⟨gl, 0, 1, HG.out.1, rfl, Nat.le_refl _, fun i hi => ?_⟩⟩
    obtain rfl : i = 0 := by omega
    obtain ⟨c0, c1, c2, c3⟩ := cell_of_four HG.out.2.1
    exact ⟨y0, y1, y2, y3, by simpa using c0, by simpa using c1, by simpa using c2, by simpa using c3, HG.out.2.2⟩
end
end Go.Proofs.YtplipjijaaejlaaGreat
