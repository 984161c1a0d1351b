/-
  The laws' nodes made types: the plain kinds, a text.
-/
import Derived.Test.YtdaabgnfgdojhaaKindTyped
namespace Go.Proofs.Ytdaabgnfgdojhaa
open Go.RowKit
set_option linter.unusedSimpArgs false
set_option linter.unusedVariables false

/-- A node made a type, at one depth. -/
def TypeOne (known : List Txt) (t : KN) (d : Nat) : Prop := ∀ (R : Nat → Prop) (v vk : Value) (w : World) (dz : Int), dz = d → 1 ≤ d → d ≤ 100 → NShows w t v → Texts R w known vk →
  Calls Try.prog 32 #[v, .int .i64 dz, vk] w fun e w' => ∃ v', e = .returned v' ∧ Shows (fun k => w.heap.size ≤ k) w' (typeE known t d) v' ∧ Fr (fun _ => False) w w'

theorem heap_alloc_4 (w : World) (a b c x y : Obj) : (((((w.alloc a).alloc b).alloc c).alloc x).alloc y).heap[w.heap.size + 1 + 1 + 1]? = some x := by
  rw [Below.heap_alloc _ _ _ (by simp)]
  have := heap_alloc_new (((w.alloc a).alloc b).alloc c) x
  simpa using this

set_option maxRecDepth 100000 in
set_option maxHeartbeats 16000000 in
theorem type_k0 (known : List Txt) (kd n c : Nat) (of : Nat → KN) (d : Nat) (hkk : kd % 10 = 0) : TypeOne known (.mk kd n c of) d := by
  intro R v vk w dz hdz hd1 hd hsh hk
  obtain ⟨vo, rfl, hkd, hn, hc, ho⟩ := hsh
  obtain ⟨oa, on, oc, rfl⟩ : ∃ oa on oc, vo = .slice oa on oc := by
    rcases ho with ⟨_, aa, cap, rfl⟩ | ⟨g, off, cap, rfl, _⟩
    · exact ⟨aa, 0, cap, rfl⟩
    · exact ⟨_, c, cap, rfl⟩
  obtain ⟨ka, kc, rfl, hks⟩ := hk.shape
  have hl1 := hk.1
  have h10 : (kd : Int) % 10 = 0 := by omega
  have HT : Hid (typeE known (.mk kd n c of) d = .mk 0 0 [] 0 (fun _ => .nil)) := Lib.hid (by
    rw [typeE_mk]
    have e : kindE kd d known = 0 := by unfold kindE; rw [hkk]; simp
    rw [e]
    rfl)
  clear ho hk hks hkk hdz
  go_enter Try.func32, Try.ntmps32
  go_wp2
  all_goals refine bodyPost_ret (results_cell_row rfl _ _ (w.heap.size + 1 + 1 + 1) 38 _ _ _ rfl (heap_alloc_4 _ _ _ _ _ _) Try.underlying38 rfl (by kernel_rfl)) rfl ?_
  all_goals rw [HT.out]
  all_goals exact ⟨_, rfl, ⟨.slice none 0 0, .slice none 0 0, by simp, by omega, by omega, texts_none _ _ _ _, .inl ⟨rfl, _, _, rfl⟩⟩, (((((Fr.refl _ _).alloc _).alloc _).alloc _).alloc _).alloc _⟩

set_option maxRecDepth 100000 in
set_option maxHeartbeats 16000000 in
theorem type_k1 (known : List Txt) (kd n c : Nat) (of : Nat → KN) (d : Nat) (hkk : kd % 10 = 1) : TypeOne known (.mk kd n c of) d := by
  intro R v vk w dz hdz hd1 hd hsh hk
  obtain ⟨vo, rfl, hkd, hn, hc, ho⟩ := hsh
  obtain ⟨oa, on, oc, rfl⟩ : ∃ oa on oc, vo = .slice oa on oc := by
    rcases ho with ⟨_, aa, cap, rfl⟩ | ⟨g, off, cap, rfl, _⟩
    · exact ⟨aa, 0, cap, rfl⟩
    · exact ⟨_, c, cap, rfl⟩
  obtain ⟨ka, kc, rfl, hks⟩ := hk.shape
  have hl1 := hk.1
  have h10 : (kd : Int) % 10 = 1 := by omega
  have HT : Hid (typeE known (.mk kd n c of) d = .mk 1 0 [] 0 (fun _ => .nil)) := Lib.hid (by
    rw [typeE_mk]
    have e : kindE kd d known = 1 := by unfold kindE; rw [hkk]; simp
    rw [e]
    rfl)
  clear ho hk hks hkk hdz
  go_enter Try.func32, Try.ntmps32
  go_wp2
  all_goals refine bodyPost_ret (results_cell_row rfl _ _ (w.heap.size + 1 + 1 + 1) 38 _ _ _ rfl (heap_alloc_4 _ _ _ _ _ _) Try.underlying38 rfl (by kernel_rfl)) rfl ?_
  all_goals rw [HT.out]
  all_goals exact ⟨_, rfl, ⟨.slice none 0 0, .slice none 0 0, by simp, by omega, by omega, texts_none _ _ _ _, .inl ⟨rfl, _, _, rfl⟩⟩, (((((Fr.refl _ _).alloc _).alloc _).alloc _).alloc _).alloc _⟩

set_option maxRecDepth 100000 in
set_option maxHeartbeats 16000000 in
theorem type_k2 (known : List Txt) (kd n c : Nat) (of : Nat → KN) (d : Nat) (hkk : kd % 10 = 2) : TypeOne known (.mk kd n c of) d := by
  intro R v vk w dz hdz hd1 hd hsh hk
  obtain ⟨vo, rfl, hkd, hn, hc, ho⟩ := hsh
  obtain ⟨oa, on, oc, rfl⟩ : ∃ oa on oc, vo = .slice oa on oc := by
    rcases ho with ⟨_, aa, cap, rfl⟩ | ⟨g, off, cap, rfl, _⟩
    · exact ⟨aa, 0, cap, rfl⟩
    · exact ⟨_, c, cap, rfl⟩
  obtain ⟨ka, kc, rfl, hks⟩ := hk.shape
  have hl1 := hk.1
  have h10 : (kd : Int) % 10 = 2 := by omega
  have HT : Hid (typeE known (.mk kd n c of) d = .mk 2 0 [] 0 (fun _ => .nil)) := Lib.hid (by
    rw [typeE_mk]
    have e : kindE kd d known = 2 := by unfold kindE; rw [hkk]; simp
    rw [e]
    rfl)
  clear ho hk hks hkk hdz
  go_enter Try.func32, Try.ntmps32
  go_wp2
  all_goals refine bodyPost_ret (results_cell_row rfl _ _ (w.heap.size + 1 + 1 + 1) 38 _ _ _ rfl (heap_alloc_4 _ _ _ _ _ _) Try.underlying38 rfl (by kernel_rfl)) rfl ?_
  all_goals rw [HT.out]
  all_goals exact ⟨_, rfl, ⟨.slice none 0 0, .slice none 0 0, by simp, by omega, by omega, texts_none _ _ _ _, .inl ⟨rfl, _, _, rfl⟩⟩, (((((Fr.refl _ _).alloc _).alloc _).alloc _).alloc _).alloc _⟩

set_option maxRecDepth 100000 in
set_option maxHeartbeats 16000000 in
theorem type_k3 (known : List Txt) (kd n c : Nat) (of : Nat → KN) (d : Nat) (hkk : kd % 10 = 3) : TypeOne known (.mk kd n c of) d := by
  intro R v vk w dz hdz hd1 hd hsh hk
  obtain ⟨vo, rfl, hkd, hn, hc, ho⟩ := hsh
  obtain ⟨oa, on, oc, rfl⟩ : ∃ oa on oc, vo = .slice oa on oc := by
    rcases ho with ⟨_, aa, cap, rfl⟩ | ⟨g, off, cap, rfl, _⟩
    · exact ⟨aa, 0, cap, rfl⟩
    · exact ⟨_, c, cap, rfl⟩
  obtain ⟨ka, kc, rfl, hks⟩ := hk.shape
  have hl1 := hk.1
  have h10 : (kd : Int) % 10 = 3 := by omega
  have HT : Hid (typeE known (.mk kd n c of) d = .mk 3 0 [] 0 (fun _ => .nil)) := Lib.hid (by
    rw [typeE_mk]
    have e : kindE kd d known = 3 := by unfold kindE; rw [hkk]; simp
    rw [e]
    rfl)
  clear ho hk hks hkk hdz
  go_enter Try.func32, Try.ntmps32
  go_wp2
  all_goals refine bodyPost_ret (results_cell_row rfl _ _ (w.heap.size + 1 + 1 + 1) 38 _ _ _ rfl (heap_alloc_4 _ _ _ _ _ _) Try.underlying38 rfl (by kernel_rfl)) rfl ?_
  all_goals rw [HT.out]
  all_goals exact ⟨_, rfl, ⟨.slice none 0 0, .slice none 0 0, by simp, by omega, by omega, texts_none _ _ _ _, .inl ⟨rfl, _, _, rfl⟩⟩, (((((Fr.refl _ _).alloc _).alloc _).alloc _).alloc _).alloc _⟩

set_option maxRecDepth 100000 in
set_option maxHeartbeats 16000000 in
theorem type_k4 (known : List Txt) (kd n c : Nat) (of : Nat → KN) (d : Nat) (hkk : kd % 10 = 4) : TypeOne known (.mk kd n c of) d := by
  intro R v vk w dz hdz hd1 hd hsh hk
  obtain ⟨vo, rfl, hkd, hn, hc, ho⟩ := hsh
  obtain ⟨oa, on, oc, rfl⟩ : ∃ oa on oc, vo = .slice oa on oc := by
    rcases ho with ⟨_, aa, cap, rfl⟩ | ⟨g, off, cap, rfl, _⟩
    · exact ⟨aa, 0, cap, rfl⟩
    · exact ⟨_, c, cap, rfl⟩
  obtain ⟨ka, kc, rfl, hks⟩ := hk.shape
  have hl1 := hk.1
  have h10 : (kd : Int) % 10 = 4 := by omega
  have n60 : (0 : Int) ≤ (n : Int) % 60 ∧ (n : Int) % 60 ≤ 59 := by omega
  have N60 := Lib.hid n60
  clear n60
  have HT : Hid (typeE known (.mk kd n c of) d = .mk 4 (1 + (n % 60 : Nat)) [] 0 (fun _ => .nil)) := Lib.hid (by
    rw [typeE_mk]
    have e : kindE kd d known = 4 := by unfold kindE; rw [hkk]; simp
    rw [e]
    rfl)
  clear ho hk hks hkk hdz
  go_enter Try.func32, Try.ntmps32
  go_wp2
  all_goals refine bodyPost_ret (results_cell_row rfl _ _ (w.heap.size + 1 + 1 + 1) 38 _ _ _ rfl (heap_alloc_4 _ _ _ _ _ _) Try.underlying38 rfl (by kernel_rfl)) rfl ?_
  all_goals rw [HT.out]
  all_goals exact ⟨_, rfl, ⟨.slice none 0 0, .slice none 0 0, by simp, by omega, by omega, texts_none _ _ _ _, .inl ⟨rfl, _, _, rfl⟩⟩, (((((Fr.refl _ _).alloc _).alloc _).alloc _).alloc _).alloc _⟩

set_option maxRecDepth 100000 in
set_option maxHeartbeats 16000000 in
theorem type_d5 (known : List Txt) (kd n c : Nat) (of : Nat → KN) (d : Nat) (hd2 : d = 1) (hkk : kd % 10 = 5) : TypeOne known (.mk kd n c of) d := by
  intro R v vk w dz hdz hd1 hd hsh hk
  obtain ⟨vo, rfl, hkd, hn, hc, ho⟩ := hsh
  obtain ⟨oa, on, oc, rfl⟩ : ∃ oa on oc, vo = .slice oa on oc := by
    rcases ho with ⟨_, aa, cap, rfl⟩ | ⟨g, off, cap, rfl, _⟩
    · exact ⟨aa, 0, cap, rfl⟩
    · exact ⟨_, c, cap, rfl⟩
  obtain ⟨ka, kc, rfl, hks⟩ := hk.shape
  have hl1 := hk.1
  have h10 : (kd : Int) % 10 = 5 := by omega
  obtain rfl : dz = 1 := by omega
  have HT : Hid (typeE known (.mk kd n c of) d = .mk 1 0 [] 0 (fun _ => .nil)) := Lib.hid (by
    rw [typeE_mk]
    have e : kindE kd d known = 1 := by unfold kindE; rw [hkk]; simp [hd2]
    rw [e]
    rfl)
  clear ho hk hks hkk hdz hd2 hd1 hd
  go_enter Try.func32, Try.ntmps32
  go_wp2
  all_goals refine bodyPost_ret (results_cell_row rfl _ _ (w.heap.size + 1 + 1 + 1) 38 _ _ _ rfl (heap_alloc_4 _ _ _ _ _ _) Try.underlying38 rfl (by kernel_rfl)) rfl ?_
  all_goals rw [HT.out]
  all_goals exact ⟨_, rfl, ⟨.slice none 0 0, .slice none 0 0, by simp, by omega, by omega, texts_none _ _ _ _, .inl ⟨rfl, _, _, rfl⟩⟩, (((((Fr.refl _ _).alloc _).alloc _).alloc _).alloc _).alloc _⟩

set_option maxRecDepth 100000 in
set_option maxHeartbeats 16000000 in
theorem type_d6 (known : List Txt) (kd n c : Nat) (of : Nat → KN) (d : Nat) (hd2 : d = 1) (hkk : kd % 10 = 6) : TypeOne known (.mk kd n c of) d := by
  intro R v vk w dz hdz hd1 hd hsh hk
  obtain ⟨vo, rfl, hkd, hn, hc, ho⟩ := hsh
  obtain ⟨oa, on, oc, rfl⟩ : ∃ oa on oc, vo = .slice oa on oc := by
    rcases ho with ⟨_, aa, cap, rfl⟩ | ⟨g, off, cap, rfl, _⟩
    · exact ⟨aa, 0, cap, rfl⟩
    · exact ⟨_, c, cap, rfl⟩
  obtain ⟨ka, kc, rfl, hks⟩ := hk.shape
  have hl1 := hk.1
  have h10 : (kd : Int) % 10 = 6 := by omega
  obtain rfl : dz = 1 := by omega
  have HT : Hid (typeE known (.mk kd n c of) d = .mk 1 0 [] 0 (fun _ => .nil)) := Lib.hid (by
    rw [typeE_mk]
    have e : kindE kd d known = 1 := by unfold kindE; rw [hkk]; simp [hd2]
    rw [e]
    rfl)
  clear ho hk hks hkk hdz hd2 hd1 hd
  go_enter Try.func32, Try.ntmps32
  go_wp2
  all_goals refine bodyPost_ret (results_cell_row rfl _ _ (w.heap.size + 1 + 1 + 1) 38 _ _ _ rfl (heap_alloc_4 _ _ _ _ _ _) Try.underlying38 rfl (by kernel_rfl)) rfl ?_
  all_goals rw [HT.out]
  all_goals exact ⟨_, rfl, ⟨.slice none 0 0, .slice none 0 0, by simp, by omega, by omega, texts_none _ _ _ _, .inl ⟨rfl, _, _, rfl⟩⟩, (((((Fr.refl _ _).alloc _).alloc _).alloc _).alloc _).alloc _⟩

set_option maxRecDepth 100000 in
set_option maxHeartbeats 16000000 in
theorem type_d8 (known : List Txt) (kd n c : Nat) (of : Nat → KN) (d : Nat) (hd2 : d = 1) (hkk : kd % 10 = 8) : TypeOne known (.mk kd n c of) d := by
  intro R v vk w dz hdz hd1 hd hsh hk
  obtain ⟨vo, rfl, hkd, hn, hc, ho⟩ := hsh
  obtain ⟨oa, on, oc, rfl⟩ : ∃ oa on oc, vo = .slice oa on oc := by
    rcases ho with ⟨_, aa, cap, rfl⟩ | ⟨g, off, cap, rfl, _⟩
    · exact ⟨aa, 0, cap, rfl⟩
    · exact ⟨_, c, cap, rfl⟩
  obtain ⟨ka, kc, rfl, hks⟩ := hk.shape
  have hl1 := hk.1
  have h10 : (kd : Int) % 10 = 8 := by omega
  obtain rfl : dz = 1 := by omega
  have HT : Hid (typeE known (.mk kd n c of) d = .mk 1 0 [] 0 (fun _ => .nil)) := Lib.hid (by
    rw [typeE_mk]
    have e : kindE kd d known = 1 := by unfold kindE; rw [hkk]; simp [hd2]
    rw [e]
    rfl)
  clear ho hk hks hkk hdz hd2 hd1 hd
  go_enter Try.func32, Try.ntmps32
  go_wp2
  all_goals refine bodyPost_ret (results_cell_row rfl _ _ (w.heap.size + 1 + 1 + 1) 38 _ _ _ rfl (heap_alloc_4 _ _ _ _ _ _) Try.underlying38 rfl (by kernel_rfl)) rfl ?_
  all_goals rw [HT.out]
  all_goals exact ⟨_, rfl, ⟨.slice none 0 0, .slice none 0 0, by simp, by omega, by omega, texts_none _ _ _ _, .inl ⟨rfl, _, _, rfl⟩⟩, (((((Fr.refl _ _).alloc _).alloc _).alloc _).alloc _).alloc _⟩

set_option maxRecDepth 100000 in
set_option maxHeartbeats 16000000 in
theorem type_e9 (known : List Txt) (kd n c : Nat) (of : Nat → KN) (d : Nat) (hl : known.length = 0) (hkk : kd % 10 = 9) : TypeOne known (.mk kd n c of) d := by
  intro R v vk w dz hdz hd1 hd hsh hk
  obtain ⟨vo, rfl, hkd, hn, hc, ho⟩ := hsh
  obtain ⟨oa, on, oc, rfl⟩ : ∃ oa on oc, vo = .slice oa on oc := by
    rcases ho with ⟨_, aa, cap, rfl⟩ | ⟨g, off, cap, rfl, _⟩
    · exact ⟨aa, 0, cap, rfl⟩
    · exact ⟨_, c, cap, rfl⟩
  obtain ⟨ka, kc, rfl, hks⟩ := hk.shape
  have hl1 := hk.1
  have h10 : (kd : Int) % 10 = 9 := by omega
  rw [hl]
  have HT : Hid (typeE known (.mk kd n c of) d = .mk 1 0 [] 0 (fun _ => .nil)) := Lib.hid (by
    rw [typeE_mk]
    have e : kindE kd d known = 1 := by unfold kindE; rw [hkk]; simp [hl]
    rw [e]
    rfl)
  clear ho hk hks hkk hdz hl
  go_enter Try.func32, Try.ntmps32
  go_wp2
  all_goals refine bodyPost_ret (results_cell_row rfl _ _ (w.heap.size + 1 + 1 + 1) 38 _ _ _ rfl (heap_alloc_4 _ _ _ _ _ _) Try.underlying38 rfl (by kernel_rfl)) rfl ?_
  all_goals rw [HT.out]
  all_goals exact ⟨_, rfl, ⟨.slice none 0 0, .slice none 0 0, by simp, by omega, by omega, texts_none _ _ _ _, .inl ⟨rfl, _, _, rfl⟩⟩, (((((Fr.refl _ _).alloc _).alloc _).alloc _).alloc _).alloc _⟩

end Go.Proofs.Ytdaabgnfgdojhaa
