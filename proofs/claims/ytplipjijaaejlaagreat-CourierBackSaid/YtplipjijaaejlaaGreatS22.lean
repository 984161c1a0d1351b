/-
  CouBack, part 22 of what it rests on: ValBuild1.
-/
import Derived.Test.YtplipjijaaejlaaGreatS21
import Derived.IntWalk
set_option linter.unusedVariables false
set_option linter.unusedSimpArgs false
set_option maxHeartbeats 64000000
namespace Go.Proofs.YtplipjijaaejlaaGreat
open Go.RowKit
open Go.Lib (hid)
section
attribute [local go_sem] run_store_float

theorem wrap32_long (x : Int) (h0 : 0 ≤ x) (h1 : x < 4294967296) : IntKind.i32.wrap x = long32 x := by
  unfold long32 IntKind.wrap
  simp [IntKind.bits, IntKind.signed]
  split <;> omega

/-- What a call of build leaves: a value in new memory; the builder as it then is. -/
def BuiltAs (l : List Int) (t : KT) (w : World) (b : Nat) (nv : Value) (tk bg : Nat) (e : Ending) (w' : World) : Prop :=
  ∃ v', e = .returned v' ∧ VShows (fun k => w.heap.size ≤ k) w' (buildE l t (tk, bg)).1 v' ∧ Fr (fun k => k = b) w w' ∧ BBox w' b nv (buildE l t (tk, bg)).2.1 (buildE l t (tk, bg)).2.2

def BuildAt (l : List Int) (t : KT) : Prop := ∀ (R : Nat → Prop) (v nv : Value) (w : World) (b tk bg : Nat), goodE t → tk + costE t ≤ 100000 → bg + costE t ≤ 100000 → Shows R w t v → ¬ R b → Nums R w l nv → BBox w b nv tk bg →
  Calls Tryz.prog 19 #[.pointer (some ⟨b, 0, none⟩), v] w (BuiltAs l t w b nv tk bg)

theorem build_box (kz m : Int) (a : Option Addr) (nl c : Nat) (a' : Option Addr) (n c' : Nat) {w w1 : World} {b : Nat} {nv : Value} {tk bg : Nat} (h : BBox w b nv tk bg)
    (hw1 : w1 = ((w.setCell ⟨b, 2, none⟩ (.int .i64 ((bg : Int) + 1))).alloc (.cells #[.int .u8 kz, .int .i64 m, .slice a nl c, .slice a' n c'] 34)).alloc (.cells #[.int .i64 0, .float .f64 0, .string ⟨#[]⟩, .slice none 0 0] 39)) :
    w1.heap[w.heap.size]? = some (.cells #[.int .u8 kz, .int .i64 m, .slice a nl c, .slice a' n c'] 34 (0, 0)) ∧ w1.heap[w.heap.size + 1]? = some (.cells #[.int .i64 0, .float .f64 0, .string ⟨#[]⟩, .slice none 0 0] 39 (0, 0)) ∧
    BBox w1 b nv tk (bg + 1) ∧ Fr (fun k => k = b) w w1 := by
  have hbl : b < w.heap.size := lt_of_block h
  have sz : (w.setCell ⟨b, 2, none⟩ (.int .i64 ((bg : Int) + 1))).heap.size = w.heap.size := by simp [World.setCell]
  subst hw1
  have h1 := heap_alloc_first (w.setCell ⟨b, 2, none⟩ (.int .i64 ((bg : Int) + 1))) (.cells #[.int .u8 kz, .int .i64 m, .slice a nl c, .slice a' n c'] 34) (.cells #[.int .i64 0, .float .f64 0, .string ⟨#[]⟩, .slice none 0 0] 39)
  have h2 := heap_alloc_two (w.setCell ⟨b, 2, none⟩ (.int .i64 ((bg : Int) + 1))) (.cells #[.int .u8 kz, .int .i64 m, .slice a nl c, .slice a' n c'] 34) (.cells #[.int .i64 0, .float .f64 0, .string ⟨#[]⟩, .slice none 0 0] 39)
  rw [sz] at h1 h2
  refine ⟨h1, h2, ?_, (((Fr.refl _ _).set1 _ _).alloc _).alloc _⟩
  unfold BBox
  rw [Below.heap_alloc _ _ _ (by simp [World.setCell]; omega), Below.heap_alloc _ _ _ (by rw [sz]; exact hbl), setCell_row 2 _ h]
  simp

theorem build_done {l : List Int} {t : KT} {w w2 : World} {b rb tk bg tk2 bg2 : Nat} {nv : Value} {x0 x1 x2 x3 : Value} {n : Int} {f : Nat} {s : Txt} {c : Nat} {of : Nat → VT} {a : Option Addr} {cap : Nat}
    (p : w2.heap[rb]? = some (.cells #[x0, x1, x2, x3] 39 (0, 0))) (f2 : Fr (fun k => k = b) w w2) (b2 : BBox w2 b nv tk2 bg2) (hrb : rb ≠ b) (hrb0 : w.heap.size ≤ rb)
    (hE : buildE l t (tk, bg) = (.mk n f s c of, tk2, bg2)) (hB : VB n f s c)
    (hk : VKids (fun k => w.heap.size ≤ k ∧ k ≠ rb) w2 of a c cap) :
    BuiltAs l t w b nv tk bg (.returned (.agg #[.int .i64 n, .float .f64 f, .string ⟨s.toArray⟩, .slice a c cap])) ((((w2.setCell ⟨rb, 0, none⟩ (.int .i64 n)).setCell ⟨rb, 1, none⟩ (.float .f64 f)).setCell ⟨rb, 2, none⟩ (.string ⟨s.toArray⟩)).setCell ⟨rb, 3, none⟩ (.slice a c cap)) := by
  have fs : Fr (fun k => k = rb) w2 ((((w2.setCell ⟨rb, 0, none⟩ (.int .i64 n)).setCell ⟨rb, 1, none⟩ (.float .f64 f)).setCell ⟨rb, 2, none⟩ (.string ⟨s.toArray⟩)).setCell ⟨rb, 3, none⟩ (.slice a c cap)) := fr_four _ _ _ _ (Fr.refl _ _) (fun _ => rfl)
  refine ⟨_, rfl, ?_, f2.trans fs (fun i hi e => by omega), ?_⟩
  · rw [hE]
    have hk2 := hk.fr fs (fun k hk e => hk.2 e)
    refine VShows.mono (fun k _ h => h.1) _ _ (vshows_mk hB hk2)
  · rw [hE]
    unfold BBox
    rw [other_four _ _ _ _ _ (fun e => hrb e.symm)]
    exact b2

set_option maxRecDepth 100000 in
theorem build_k0 (l : List Int) (k : Nat) (m : Int) (ns : List Txt) (n : Nat) (of : Nat → KT) (hk0 : k = 0) : BuildAt l (.mk k m ns n of) := by
  intro R v nv w b tk bg hgood htk hbg hsh hRb hnum hbox
  obtain ⟨⟨hn12, hown⟩, hkids⟩ := hgood
  obtain ⟨hk8, hmost, hone, hparts, hnames, hnone⟩ := own_facts hown
  have hcost : 1 ≤ costE (.mk k m ns n of) := by unfold costE; omega
  have htk' : tk ≤ 100000 := by omega
  have hbg' : bg + 1 ≤ 100000 := by omega
  obtain ⟨vn, vo, rfl, hk, hn, ht, ho⟩ := hsh
  obtain ⟨a, c, rfl, _⟩ := ht.shape
  obtain ⟨a', c', rfl, hs⟩ : ∃ a' c', vo = .slice a' n c' ∧ Kids R w of a' n c' := by
    rcases ho with ⟨rfl, a', c', rfl⟩ | ⟨g, off, cap, hg, rfl, hle, hc⟩
    · exact ⟨a', c', rfl, .inl rfl⟩
    · exact ⟨_, cap, rfl, .inr ⟨hle, g, off, hg, rfl, hc⟩⟩
  have HS := Lib.hid hs
  have HRB := Lib.hid (show ∀ i, R i → ¬ i = b from fun i hi e => hRb (by rw [← e]; exact hi))
  have HN := Lib.hid hnum
  have HBX := Lib.hid hbox
  have hbl : b < w.heap.size := lt_of_block hbox
  unfold BBox at hbox
  have r0 := cells_row hbox 2 _ rfl
  have z0 : w.frozen? ⟨b, 2, none⟩ = false := by simp [World.frozen?, hbox]
  have n1 : b ≠ w.heap.size := by omega
  have n2 : w.heap.size ≠ b := by omega
  have n3 : b ≠ w.heap.size + 1 := by omega
  have n4 : w.heap.size + 1 ≠ b := by omega
  have HK := Lib.hid (And.intro hk0 (And.intro hmost (And.intro hone (And.intro hparts (And.intro hnames hnone)))))
  have HKIDS := Lib.hid hkids
  have HCST := Lib.hid (And.intro htk hbg)
  have HT := Lib.hid ht
  obtain ⟨kz, hkz⟩ : ∃ kz : Int, (k : Int) = kz := ⟨_, rfl⟩
  rw [hkz]
  have e0 : (kz == 0) = true := by simp; omega
  clear ho hs ht hRb hnum hbox hk0 hmost hone hparts hnames hnone hkids htk hbg hkz hown hcost hk
  go_enter Tryz.func19, Tryz.ntmps19
  go_upto_region 2 with fail
  obtain ⟨w1, hw1⟩ : ∃ w1, w1 = ((w.setCell ⟨b, 2, none⟩ (.int .i64 ((bg : Int) + 1))).alloc (.cells #[.int .u8 kz, .int .i64 m, .slice a ns.length c, .slice a' n c'] 34)).alloc (.cells #[.int .i64 0, .float .f64 0, .string ⟨#[]⟩, .slice none 0 0] 39) := ⟨_, rfl⟩
  rw [← hw1]
  obtain ⟨q1, p1, b1, f1⟩ := build_box kz m a ns.length c a' n c' HBX.out hw1
  obtain ⟨rb, hrb⟩ : ∃ rb, w.heap.size + 1 = rb := ⟨_, rfl⟩
  rw [hrb] at p1 ⊢
  have hrbb : rb ≠ b := by omega
  have hrb0 : w.heap.size ≤ rb := by omega
  have HRBX := Lib.hid hrb
  have c0 := cells_row q1 0 _ rfl
  have c1 := cells_row q1 1 _ rfl
  have c2 := cells_row q1 2 _ rfl
  have c3 := cells_row q1 3 _ rfl
  have HW1 := Lib.hid (And.intro q1 (And.intro p1 (And.intro b1 f1)))
  clear hw1 r0 z0 n1 n2 n3 n4 hrb q1 p1 b1 f1
  have htake := take_any R l nv b tk (bg + 1) (2 : Int) w1 HW1.out.2.2.1 (HN.out.fr HW1.out.2.2.2 HRB.out) htk' (by omega) (by omega)
  obtain ⟨x, hx⟩ : ∃ x, numE l tk % (2 : Int) = x := ⟨_, rfl⟩
  have hx0 : 0 ≤ x := by rw [← hx]; exact Int.emod_nonneg _ (by omega)
  have hx1 : x < 2 := by rw [← hx]; exact Int.emod_lt_of_pos _ (by omega)
  rw [hx] at htake
  have HX := Lib.hid hx
  clear hx
  go_wp2_with fail
  refine htake.mono ?_
  rintro e w2 ⟨rfl, f2, b2⟩
  clear htake
  have p2 := box_kept HW1.out.2.1 f2 (fun e => hrbb e)
  have t0 := cells_row p2 0 _ rfl
  have t1 := cells_row p2 1 _ rfl
  have t2 := cells_row p2 2 _ rfl
  have t3 := cells_row p2 3 _ rfl
  have u0 : w2.frozen? ⟨rb, 0, none⟩ = false := by simp [World.frozen?, p2]
  have u1 : w2.frozen? ⟨rb, 1, none⟩ = false := by simp [World.frozen?, p2]
  have u2 : w2.frozen? ⟨rb, 2, none⟩ = false := by simp [World.frozen?, p2]
  have u3 : w2.frozen? ⟨rb, 3, none⟩ = false := by simp [World.frozen?, p2]
  have H2 := Lib.hid (And.intro p2 (And.intro (HW1.out.2.2.2.trans f2 (fun _ _ h => h)) b2))
  clear f2 b2 p2 c0 c1 c2 c3
  go_wp2
  refine bodyPost_ret (results_cell_row rfl _ _ rb 39 _ _ _ rfl (store_four H2.out.1) Tryz.underlying39 rfl (by kernel_rfl)) rfl ?_
  refine build_done H2.out.1 H2.out.2.1 H2.out.2.2 hrbb hrb0 (by unfold buildE; have hk := HK.out.1; subst hk; simp only [vnum]; rw [← HX.out]; rfl) (by unfold VB maxLen; simp; first | omega | skip) (.inl rfl)

set_option maxRecDepth 100000 in
theorem build_k1 (l : List Int) (k : Nat) (m : Int) (ns : List Txt) (n : Nat) (of : Nat → KT) (hk0 : k = 1) : BuildAt l (.mk k m ns n of) := by
  intro R v nv w b tk bg hgood htk hbg hsh hRb hnum hbox
  obtain ⟨⟨hn12, hown⟩, hkids⟩ := hgood
  obtain ⟨hk8, hmost, hone, hparts, hnames, hnone⟩ := own_facts hown
  have hcost : 1 ≤ costE (.mk k m ns n of) := by unfold costE; omega
  have htk' : tk ≤ 100000 := by omega
  have hbg' : bg + 1 ≤ 100000 := by omega
  obtain ⟨vn, vo, rfl, hk, hn, ht, ho⟩ := hsh
  obtain ⟨a, c, rfl, _⟩ := ht.shape
  obtain ⟨a', c', rfl, hs⟩ : ∃ a' c', vo = .slice a' n c' ∧ Kids R w of a' n c' := by
    rcases ho with ⟨rfl, a', c', rfl⟩ | ⟨g, off, cap, hg, rfl, hle, hc⟩
    · exact ⟨a', c', rfl, .inl rfl⟩
    · exact ⟨_, cap, rfl, .inr ⟨hle, g, off, hg, rfl, hc⟩⟩
  have HS := Lib.hid hs
  have HRB := Lib.hid (show ∀ i, R i → ¬ i = b from fun i hi e => hRb (by rw [← e]; exact hi))
  have HN := Lib.hid hnum
  have HBX := Lib.hid hbox
  have hbl : b < w.heap.size := lt_of_block hbox
  unfold BBox at hbox
  have r0 := cells_row hbox 2 _ rfl
  have z0 : w.frozen? ⟨b, 2, none⟩ = false := by simp [World.frozen?, hbox]
  have n1 : b ≠ w.heap.size := by omega
  have n2 : w.heap.size ≠ b := by omega
  have n3 : b ≠ w.heap.size + 1 := by omega
  have n4 : w.heap.size + 1 ≠ b := by omega
  have HK := Lib.hid (And.intro hk0 (And.intro hmost (And.intro hone (And.intro hparts (And.intro hnames hnone)))))
  have HKIDS := Lib.hid hkids
  have HCST := Lib.hid (And.intro htk hbg)
  have HT := Lib.hid ht
  obtain ⟨kz, hkz⟩ : ∃ kz : Int, (k : Int) = kz := ⟨_, rfl⟩
  rw [hkz]
  have e0 : (kz == 0) = false := by simp; omega
  have e1 : (kz == 1) = true := by simp; omega
  clear ho hs ht hRb hnum hbox hk0 hmost hone hparts hnames hnone hkids htk hbg hkz hown hcost hk
  go_enter Tryz.func19, Tryz.ntmps19
  go_upto_region 2 with fail
  obtain ⟨w1, hw1⟩ : ∃ w1, w1 = ((w.setCell ⟨b, 2, none⟩ (.int .i64 ((bg : Int) + 1))).alloc (.cells #[.int .u8 kz, .int .i64 m, .slice a ns.length c, .slice a' n c'] 34)).alloc (.cells #[.int .i64 0, .float .f64 0, .string ⟨#[]⟩, .slice none 0 0] 39) := ⟨_, rfl⟩
  rw [← hw1]
  obtain ⟨q1, p1, b1, f1⟩ := build_box kz m a ns.length c a' n c' HBX.out hw1
  obtain ⟨rb, hrb⟩ : ∃ rb, w.heap.size + 1 = rb := ⟨_, rfl⟩
  rw [hrb] at p1 ⊢
  have hrbb : rb ≠ b := by omega
  have hrb0 : w.heap.size ≤ rb := by omega
  have HRBX := Lib.hid hrb
  have c0 := cells_row q1 0 _ rfl
  have c1 := cells_row q1 1 _ rfl
  have c2 := cells_row q1 2 _ rfl
  have c3 := cells_row q1 3 _ rfl
  have HW1 := Lib.hid (And.intro q1 (And.intro p1 (And.intro b1 f1)))
  clear hw1 r0 z0 n1 n2 n3 n4 hrb q1 p1 b1 f1
  have htake := take_any R l nv b tk (bg + 1) (65536 : Int) w1 HW1.out.2.2.1 (HN.out.fr HW1.out.2.2.2 HRB.out) htk' (by omega) (by omega)
  obtain ⟨x, hx⟩ : ∃ x, numE l tk % (65536 : Int) = x := ⟨_, rfl⟩
  have hx0 : 0 ≤ x := by rw [← hx]; exact Int.emod_nonneg _ (by omega)
  have hx1 : x < 65536 := by rw [← hx]; exact Int.emod_lt_of_pos _ (by omega)
  rw [hx] at htake
  have HX := Lib.hid hx
  clear hx
  go_wp2_with fail
  refine htake.mono ?_
  rintro e w2 ⟨rfl, f2, b2⟩
  clear htake
  have p2 := box_kept HW1.out.2.1 f2 (fun e => hrbb e)
  have t0 := cells_row p2 0 _ rfl
  have t1 := cells_row p2 1 _ rfl
  have t2 := cells_row p2 2 _ rfl
  have t3 := cells_row p2 3 _ rfl
  have u0 : w2.frozen? ⟨rb, 0, none⟩ = false := by simp [World.frozen?, p2]
  have u1 : w2.frozen? ⟨rb, 1, none⟩ = false := by simp [World.frozen?, p2]
  have u2 : w2.frozen? ⟨rb, 2, none⟩ = false := by simp [World.frozen?, p2]
  have u3 : w2.frozen? ⟨rb, 3, none⟩ = false := by simp [World.frozen?, p2]
  have H2 := Lib.hid (And.intro p2 (And.intro (HW1.out.2.2.2.trans f2 (fun _ _ h => h)) b2))
  clear f2 b2 p2 c0 c1 c2 c3
  go_wp2
  refine bodyPost_ret (results_cell_row rfl _ _ rb 39 _ _ _ rfl (store_four H2.out.1) Tryz.underlying39 rfl (by kernel_rfl)) rfl ?_
  refine build_done H2.out.1 H2.out.2.1 H2.out.2.2 hrbb hrb0 (by unfold buildE; have hk := HK.out.1; subst hk; simp only [vnum]; rw [← HX.out]; rfl) (by unfold VB maxLen; simp; first | omega | skip) (.inl rfl)

set_option maxRecDepth 100000 in
theorem build_k7 (l : List Int) (k : Nat) (m : Int) (ns : List Txt) (n : Nat) (of : Nat → KT) (hk0 : k = 7) : BuildAt l (.mk k m ns n of) := by
  intro R v nv w b tk bg hgood htk hbg hsh hRb hnum hbox
  obtain ⟨⟨hn12, hown⟩, hkids⟩ := hgood
  obtain ⟨hk8, hmost, hone, hparts, hnames, hnone⟩ := own_facts hown
  have hcost : 1 ≤ costE (.mk k m ns n of) := by unfold costE; omega
  have htk' : tk ≤ 100000 := by omega
  have hbg' : bg + 1 ≤ 100000 := by omega
  obtain ⟨vn, vo, rfl, hk, hn, ht, ho⟩ := hsh
  obtain ⟨a, c, rfl, _⟩ := ht.shape
  obtain ⟨a', c', rfl, hs⟩ : ∃ a' c', vo = .slice a' n c' ∧ Kids R w of a' n c' := by
    rcases ho with ⟨rfl, a', c', rfl⟩ | ⟨g, off, cap, hg, rfl, hle, hc⟩
    · exact ⟨a', c', rfl, .inl rfl⟩
    · exact ⟨_, cap, rfl, .inr ⟨hle, g, off, hg, rfl, hc⟩⟩
  have HS := Lib.hid hs
  have HRB := Lib.hid (show ∀ i, R i → ¬ i = b from fun i hi e => hRb (by rw [← e]; exact hi))
  have HN := Lib.hid hnum
  have HBX := Lib.hid hbox
  have hbl : b < w.heap.size := lt_of_block hbox
  unfold BBox at hbox
  have r0 := cells_row hbox 2 _ rfl
  have z0 : w.frozen? ⟨b, 2, none⟩ = false := by simp [World.frozen?, hbox]
  have n1 : b ≠ w.heap.size := by omega
  have n2 : w.heap.size ≠ b := by omega
  have n3 : b ≠ w.heap.size + 1 := by omega
  have n4 : w.heap.size + 1 ≠ b := by omega
  have HK := Lib.hid (And.intro hk0 (And.intro hmost (And.intro hone (And.intro hparts (And.intro hnames hnone)))))
  have HKIDS := Lib.hid hkids
  have HCST := Lib.hid (And.intro htk hbg)
  have HT := Lib.hid ht
  obtain ⟨kz, hkz⟩ : ∃ kz : Int, (k : Int) = kz := ⟨_, rfl⟩
  rw [hkz]
  have e0 : (kz == 0) = false := by simp; omega
  have e1 : (kz == 1) = false := by simp; omega
  have e2 : (kz == 2) = false := by simp; omega
  have e3 : (kz == 3) = false := by simp; omega
  have e4 : (kz == 4) = false := by simp; omega
  have e5 : (kz == 5) = false := by simp; omega
  have e6 : (kz == 6) = false := by simp; omega
  have e7 : (kz == 7) = true := by simp; omega
  clear ho hs ht hRb hnum hbox hk0 hmost hone hparts hnames hnone hkids htk hbg hkz hown hcost hk
  go_enter Tryz.func19, Tryz.ntmps19
  go_upto_region 2 with fail
  obtain ⟨w1, hw1⟩ : ∃ w1, w1 = ((w.setCell ⟨b, 2, none⟩ (.int .i64 ((bg : Int) + 1))).alloc (.cells #[.int .u8 kz, .int .i64 m, .slice a ns.length c, .slice a' n c'] 34)).alloc (.cells #[.int .i64 0, .float .f64 0, .string ⟨#[]⟩, .slice none 0 0] 39) := ⟨_, rfl⟩
  rw [← hw1]
  obtain ⟨q1, p1, b1, f1⟩ := build_box kz m a ns.length c a' n c' HBX.out hw1
  obtain ⟨rb, hrb⟩ : ∃ rb, w.heap.size + 1 = rb := ⟨_, rfl⟩
  rw [hrb] at p1 ⊢
  have hrbb : rb ≠ b := by omega
  have hrb0 : w.heap.size ≤ rb := by omega
  have HRBX := Lib.hid hrb
  have c0 := cells_row q1 0 _ rfl
  have c1 := cells_row q1 1 _ rfl
  have c2 := cells_row q1 2 _ rfl
  have c3 := cells_row q1 3 _ rfl
  have HW1 := Lib.hid (And.intro q1 (And.intro p1 (And.intro b1 f1)))
  clear hw1 r0 z0 n1 n2 n3 n4 hrb q1 p1 b1 f1
  have hl0 := (HK.out.2.2.2.2.1 (by have := HK.out.1; omega)).1
  have hl1 := (HK.out.2.2.2.2.1 (by have := HK.out.1; omega)).2
  have htake := take_any R l nv b tk (bg + 1) ((ns.length : Nat) : Int) w1 HW1.out.2.2.1 (HN.out.fr HW1.out.2.2.2 HRB.out) htk' (by omega) (by omega)
  obtain ⟨x, hx⟩ : ∃ x, numE l tk % ((ns.length : Nat) : Int) = x := ⟨_, rfl⟩
  have hx0 : 0 ≤ x := by rw [← hx]; exact Int.emod_nonneg _ (by omega)
  have hx1 : x < (ns.length : Nat) := by rw [← hx]; exact Int.emod_lt_of_pos _ (by omega)
  rw [hx] at htake
  have HX := Lib.hid hx
  clear hx
  go_wp2_with fail
  refine htake.mono ?_
  rintro e w2 ⟨rfl, f2, b2⟩
  clear htake
  have p2 := box_kept HW1.out.2.1 f2 (fun e => hrbb e)
  have t0 := cells_row p2 0 _ rfl
  have t1 := cells_row p2 1 _ rfl
  have t2 := cells_row p2 2 _ rfl
  have t3 := cells_row p2 3 _ rfl
  have u0 : w2.frozen? ⟨rb, 0, none⟩ = false := by simp [World.frozen?, p2]
  have u1 : w2.frozen? ⟨rb, 1, none⟩ = false := by simp [World.frozen?, p2]
  have u2 : w2.frozen? ⟨rb, 2, none⟩ = false := by simp [World.frozen?, p2]
  have u3 : w2.frozen? ⟨rb, 3, none⟩ = false := by simp [World.frozen?, p2]
  have H2 := Lib.hid (And.intro p2 (And.intro (HW1.out.2.2.2.trans f2 (fun _ _ h => h)) b2))
  clear f2 b2 p2 c0 c1 c2 c3
  go_wp2
  refine bodyPost_ret (results_cell_row rfl _ _ rb 39 _ _ _ rfl (store_four H2.out.1) Tryz.underlying39 rfl (by kernel_rfl)) rfl ?_
  refine build_done H2.out.1 H2.out.2.1 H2.out.2.2 hrbb hrb0 (by unfold buildE; have hk := HK.out.1; subst hk; simp only [vnum]; rw [← HX.out]; rfl) (by unfold VB maxLen; simp; first | omega | skip) (.inl rfl)

set_option maxRecDepth 100000 in
theorem build_k2 (l : List Int) (k : Nat) (m : Int) (ns : List Txt) (n : Nat) (of : Nat → KT) (hk0 : k = 2) : BuildAt l (.mk k m ns n of) := by
  intro R v nv w b tk bg hgood htk hbg hsh hRb hnum hbox
  obtain ⟨⟨hn12, hown⟩, hkids⟩ := hgood
  obtain ⟨hk8, hmost, hone, hparts, hnames, hnone⟩ := own_facts hown
  have hcost : 1 ≤ costE (.mk k m ns n of) := by unfold costE; omega
  have htk' : tk ≤ 100000 := by omega
  have hbg' : bg + 1 ≤ 100000 := by omega
  obtain ⟨vn, vo, rfl, hk, hn, ht, ho⟩ := hsh
  obtain ⟨a, c, rfl, _⟩ := ht.shape
  obtain ⟨a', c', rfl, hs⟩ : ∃ a' c', vo = .slice a' n c' ∧ Kids R w of a' n c' := by
    rcases ho with ⟨rfl, a', c', rfl⟩ | ⟨g, off, cap, hg, rfl, hle, hc⟩
    · exact ⟨a', c', rfl, .inl rfl⟩
    · exact ⟨_, cap, rfl, .inr ⟨hle, g, off, hg, rfl, hc⟩⟩
  have HS := Lib.hid hs
  have HRB := Lib.hid (show ∀ i, R i → ¬ i = b from fun i hi e => hRb (by rw [← e]; exact hi))
  have HN := Lib.hid hnum
  have HBX := Lib.hid hbox
  have hbl : b < w.heap.size := lt_of_block hbox
  unfold BBox at hbox
  have r0 := cells_row hbox 2 _ rfl
  have z0 : w.frozen? ⟨b, 2, none⟩ = false := by simp [World.frozen?, hbox]
  have n1 : b ≠ w.heap.size := by omega
  have n2 : w.heap.size ≠ b := by omega
  have n3 : b ≠ w.heap.size + 1 := by omega
  have n4 : w.heap.size + 1 ≠ b := by omega
  have HK := Lib.hid (And.intro hk0 (And.intro hmost (And.intro hone (And.intro hparts (And.intro hnames hnone)))))
  have HKIDS := Lib.hid hkids
  have HCST := Lib.hid (And.intro htk hbg)
  have HT := Lib.hid ht
  obtain ⟨kz, hkz⟩ : ∃ kz : Int, (k : Int) = kz := ⟨_, rfl⟩
  rw [hkz]
  have e0 : (kz == 0) = false := by simp; omega
  have e1 : (kz == 1) = false := by simp; omega
  have e2 : (kz == 2) = true := by simp; omega
  clear ho hs ht hRb hnum hbox hk0 hmost hone hparts hnames hnone hkids htk hbg hkz hown hcost hk
  go_enter Tryz.func19, Tryz.ntmps19
  go_upto_region 2 with fail
  obtain ⟨w1, hw1⟩ : ∃ w1, w1 = ((w.setCell ⟨b, 2, none⟩ (.int .i64 ((bg : Int) + 1))).alloc (.cells #[.int .u8 kz, .int .i64 m, .slice a ns.length c, .slice a' n c'] 34)).alloc (.cells #[.int .i64 0, .float .f64 0, .string ⟨#[]⟩, .slice none 0 0] 39) := ⟨_, rfl⟩
  rw [← hw1]
  obtain ⟨q1, p1, b1, f1⟩ := build_box kz m a ns.length c a' n c' HBX.out hw1
  obtain ⟨rb, hrb⟩ : ∃ rb, w.heap.size + 1 = rb := ⟨_, rfl⟩
  rw [hrb] at p1 ⊢
  have hrbb : rb ≠ b := by omega
  have hrb0 : w.heap.size ≤ rb := by omega
  have HRBX := Lib.hid hrb
  have c0 := cells_row q1 0 _ rfl
  have c1 := cells_row q1 1 _ rfl
  have c2 := cells_row q1 2 _ rfl
  have c3 := cells_row q1 3 _ rfl
  have HW1 := Lib.hid (And.intro q1 (And.intro p1 (And.intro b1 f1)))
  clear hw1 r0 z0 n1 n2 n3 n4 hrb q1 p1 b1 f1
  have htake := take_any R l nv b tk (bg + 1) (4294967296 : Int) w1 HW1.out.2.2.1 (HN.out.fr HW1.out.2.2.2 HRB.out) htk' (by omega) (by omega)
  obtain ⟨x, hx⟩ : ∃ x, numE l tk % (4294967296 : Int) = x := ⟨_, rfl⟩
  have hx0 : 0 ≤ x := by rw [← hx]; exact Int.emod_nonneg _ (by omega)
  have hx1 : x < 4294967296 := by rw [← hx]; exact Int.emod_lt_of_pos _ (by omega)
  rw [hx] at htake
  have HX := Lib.hid hx
  clear hx
  obtain ⟨y, hy⟩ : ∃ y, long32 x = y := ⟨_, rfl⟩
  have HY := Lib.hid hy
  have hy0 : -2147483648 ≤ y := by rw [← hy]; unfold long32; split <;> omega
  have hy1 : y ≤ 2147483647 := by rw [← hy]; unfold long32; split <;> omega
  have hw : IntKind.i32.wrap x = y := by rw [← hy]; exact wrap32_long x hx0 hx1
  have HWR := Lib.hid hw
  clear hy hw
  go_wp2_with fail
  refine htake.mono ?_
  rintro e w2 ⟨rfl, f2, b2⟩
  clear htake
  have hw : IntKind.i32.wrap x = y := HWR.out
  have p2 := box_kept HW1.out.2.1 f2 (fun e => hrbb e)
  have t0 := cells_row p2 0 _ rfl
  have t1 := cells_row p2 1 _ rfl
  have t2 := cells_row p2 2 _ rfl
  have t3 := cells_row p2 3 _ rfl
  have u0 : w2.frozen? ⟨rb, 0, none⟩ = false := by simp [World.frozen?, p2]
  have u1 : w2.frozen? ⟨rb, 1, none⟩ = false := by simp [World.frozen?, p2]
  have u2 : w2.frozen? ⟨rb, 2, none⟩ = false := by simp [World.frozen?, p2]
  have u3 : w2.frozen? ⟨rb, 3, none⟩ = false := by simp [World.frozen?, p2]
  have H2 := Lib.hid (And.intro p2 (And.intro (HW1.out.2.2.2.trans f2 (fun _ _ h => h)) b2))
  clear f2 b2 p2 c0 c1 c2 c3
  go_wp2
  clear hw
  refine bodyPost_ret (results_cell_row rfl _ _ rb 39 _ _ _ rfl (store_four H2.out.1) Tryz.underlying39 rfl (by kernel_rfl)) rfl ?_
  refine build_done H2.out.1 H2.out.2.1 H2.out.2.2 hrbb hrb0 (by unfold buildE; have hk := HK.out.1; subst hk; simp only [vnum]; rw [← HY.out, ← HX.out]; rfl) (by unfold VB maxLen; simp; first | omega | skip) (.inl rfl)

set_option maxRecDepth 100000 in
theorem build_k3 (l : List Int) (k : Nat) (m : Int) (ns : List Txt) (n : Nat) (of : Nat → KT) (hk0 : k = 3) : BuildAt l (.mk k m ns n of) := by
  intro R v nv w b tk bg hgood htk hbg hsh hRb hnum hbox
  obtain ⟨⟨hn12, hown⟩, hkids⟩ := hgood
  obtain ⟨hk8, hmost, hone, hparts, hnames, hnone⟩ := own_facts hown
  have hcost : 1 ≤ costE (.mk k m ns n of) := by unfold costE; omega
  have htk' : tk ≤ 100000 := by omega
  have hbg' : bg + 1 ≤ 100000 := by omega
  obtain ⟨vn, vo, rfl, hk, hn, ht, ho⟩ := hsh
  obtain ⟨a, c, rfl, _⟩ := ht.shape
  obtain ⟨a', c', rfl, hs⟩ : ∃ a' c', vo = .slice a' n c' ∧ Kids R w of a' n c' := by
    rcases ho with ⟨rfl, a', c', rfl⟩ | ⟨g, off, cap, hg, rfl, hle, hc⟩
    · exact ⟨a', c', rfl, .inl rfl⟩
    · exact ⟨_, cap, rfl, .inr ⟨hle, g, off, hg, rfl, hc⟩⟩
  have HS := Lib.hid hs
  have HRB := Lib.hid (show ∀ i, R i → ¬ i = b from fun i hi e => hRb (by rw [← e]; exact hi))
  have HN := Lib.hid hnum
  have HBX := Lib.hid hbox
  have hbl : b < w.heap.size := lt_of_block hbox
  unfold BBox at hbox
  have r0 := cells_row hbox 2 _ rfl
  have z0 : w.frozen? ⟨b, 2, none⟩ = false := by simp [World.frozen?, hbox]
  have n1 : b ≠ w.heap.size := by omega
  have n2 : w.heap.size ≠ b := by omega
  have n3 : b ≠ w.heap.size + 1 := by omega
  have n4 : w.heap.size + 1 ≠ b := by omega
  have HK := Lib.hid (And.intro hk0 (And.intro hmost (And.intro hone (And.intro hparts (And.intro hnames hnone)))))
  have HKIDS := Lib.hid hkids
  have HCST := Lib.hid (And.intro htk hbg)
  have HT := Lib.hid ht
  obtain ⟨kz, hkz⟩ : ∃ kz : Int, (k : Int) = kz := ⟨_, rfl⟩
  rw [hkz]
  have e0 : (kz == 0) = false := by simp; omega
  have e1 : (kz == 1) = false := by simp; omega
  have e2 : (kz == 2) = false := by simp; omega
  have e3 : (kz == 3) = true := by simp; omega
  clear ho hs ht hRb hnum hbox hk0 hmost hone hparts hnames hnone hkids htk hbg hkz hown hcost hk
  go_enter Tryz.func19, Tryz.ntmps19
  go_upto_region 2 with fail
  obtain ⟨w1, hw1⟩ : ∃ w1, w1 = ((w.setCell ⟨b, 2, none⟩ (.int .i64 ((bg : Int) + 1))).alloc (.cells #[.int .u8 kz, .int .i64 m, .slice a ns.length c, .slice a' n c'] 34)).alloc (.cells #[.int .i64 0, .float .f64 0, .string ⟨#[]⟩, .slice none 0 0] 39) := ⟨_, rfl⟩
  rw [← hw1]
  obtain ⟨q1, p1, b1, f1⟩ := build_box kz m a ns.length c a' n c' HBX.out hw1
  obtain ⟨rb, hrb⟩ : ∃ rb, w.heap.size + 1 = rb := ⟨_, rfl⟩
  rw [hrb] at p1 ⊢
  have hrbb : rb ≠ b := by omega
  have hrb0 : w.heap.size ≤ rb := by omega
  have HRBX := Lib.hid hrb
  have c0 := cells_row q1 0 _ rfl
  have c1 := cells_row q1 1 _ rfl
  have c2 := cells_row q1 2 _ rfl
  have c3 := cells_row q1 3 _ rfl
  have HW1 := Lib.hid (And.intro q1 (And.intro p1 (And.intro b1 f1)))
  clear hw1 r0 z0 n1 n2 n3 n4 hrb q1 p1 b1 f1
  have hnum := number_any R l nv b tk (bg + 1) w1 HW1.out.2.2.1 (HN.out.fr HW1.out.2.2.2 HRB.out) htk'
  have hxb := numE_in HN.out tk
  obtain ⟨x, hx⟩ : ∃ x, numE l tk = x := ⟨_, rfl⟩
  have hfl := float_of_int x
  rw [hx] at hnum hxb
  obtain ⟨hx0, hx1⟩ := hxb
  have HFL := Lib.hid hfl
  have HX := Lib.hid hx
  clear hx hfl
  go_wp2_with fail
  refine hnum.mono ?_
  rintro e w2 ⟨rfl, f2, b2⟩
  clear hnum
  have p2 := box_kept HW1.out.2.1 f2 (fun e => hrbb e)
  have t0 := cells_row p2 0 _ rfl
  have t1 := cells_row p2 1 _ rfl
  have t2 := cells_row p2 2 _ rfl
  have t3 := cells_row p2 3 _ rfl
  have u0 : w2.frozen? ⟨rb, 0, none⟩ = false := by simp [World.frozen?, p2]
  have u1 : w2.frozen? ⟨rb, 1, none⟩ = false := by simp [World.frozen?, p2]
  have u2 : w2.frozen? ⟨rb, 2, none⟩ = false := by simp [World.frozen?, p2]
  have u3 : w2.frozen? ⟨rb, 3, none⟩ = false := by simp [World.frozen?, p2]
  have H2 := Lib.hid (And.intro p2 (And.intro (HW1.out.2.2.2.trans f2 (fun _ _ h => h)) b2))
  clear f2 b2 p2 c0 c1 c2 c3
  go_wp2
  refine bodyPost_ret (results_cell_row rfl _ _ rb 39 _ _ _ rfl (store_four H2.out.1) Tryz.underlying39 rfl (by kernel_rfl)) rfl ?_
  refine build_done H2.out.1 H2.out.2.1 H2.out.2.2 hrbb hrb0 (by unfold buildE; have hk := HK.out.1; subst hk; rw [← HX.out]; rfl) (by unfold VB maxLen; exact ⟨by omega, by omega, HFL.out, by simp, by omega⟩) (.inl rfl)

set_option maxRecDepth 100000 in
theorem build_k4 (l : List Int) (k : Nat) (m : Int) (ns : List Txt) (n : Nat) (of : Nat → KT) (hk0 : k = 4) : BuildAt l (.mk k m ns n of) := by
  intro R v nv w b tk bg hgood htk hbg hsh hRb hnum hbox
  obtain ⟨⟨hn12, hown⟩, hkids⟩ := hgood
  obtain ⟨hk8, hmost, hone, hparts, hnames, hnone⟩ := own_facts hown
  have hcost : 1 ≤ costE (.mk k m ns n of) := by unfold costE; omega
  have htk' : tk ≤ 100000 := by omega
  have hbg' : bg + 1 ≤ 100000 := by omega
  obtain ⟨vn, vo, rfl, hk, hn, ht, ho⟩ := hsh
  obtain ⟨a, c, rfl, _⟩ := ht.shape
  obtain ⟨a', c', rfl, hs⟩ : ∃ a' c', vo = .slice a' n c' ∧ Kids R w of a' n c' := by
    rcases ho with ⟨rfl, a', c', rfl⟩ | ⟨g, off, cap, hg, rfl, hle, hc⟩
    · exact ⟨a', c', rfl, .inl rfl⟩
    · exact ⟨_, cap, rfl, .inr ⟨hle, g, off, hg, rfl, hc⟩⟩
  have HS := Lib.hid hs
  have HRB := Lib.hid (show ∀ i, R i → ¬ i = b from fun i hi e => hRb (by rw [← e]; exact hi))
  have HN := Lib.hid hnum
  have HBX := Lib.hid hbox
  have hbl : b < w.heap.size := lt_of_block hbox
  unfold BBox at hbox
  have r0 := cells_row hbox 2 _ rfl
  have z0 : w.frozen? ⟨b, 2, none⟩ = false := by simp [World.frozen?, hbox]
  have n1 : b ≠ w.heap.size := by omega
  have n2 : w.heap.size ≠ b := by omega
  have n3 : b ≠ w.heap.size + 1 := by omega
  have n4 : w.heap.size + 1 ≠ b := by omega
  have HK := Lib.hid (And.intro hk0 (And.intro hmost (And.intro hone (And.intro hparts (And.intro hnames hnone)))))
  have HKIDS := Lib.hid hkids
  have HCST := Lib.hid (And.intro htk hbg)
  have HT := Lib.hid ht
  obtain ⟨kz, hkz⟩ : ∃ kz : Int, (k : Int) = kz := ⟨_, rfl⟩
  rw [hkz]
  have e0 : (kz == 0) = false := by simp; omega
  have e1 : (kz == 1) = false := by simp; omega
  have e2 : (kz == 2) = false := by simp; omega
  have e3 : (kz == 3) = false := by simp; omega
  have e4 : (kz == 4) = true := by simp; omega
  clear ho hs ht hRb hnum hbox hk0 hmost hone hparts hnames hnone hkids htk hbg hkz hown hcost hk
  go_enter Tryz.func19, Tryz.ntmps19
  go_upto_region 2 with fail
  obtain ⟨w1, hw1⟩ : ∃ w1, w1 = ((w.setCell ⟨b, 2, none⟩ (.int .i64 ((bg : Int) + 1))).alloc (.cells #[.int .u8 kz, .int .i64 m, .slice a ns.length c, .slice a' n c'] 34)).alloc (.cells #[.int .i64 0, .float .f64 0, .string ⟨#[]⟩, .slice none 0 0] 39) := ⟨_, rfl⟩
  rw [← hw1]
  obtain ⟨q1, p1, b1, f1⟩ := build_box kz m a ns.length c a' n c' HBX.out hw1
  obtain ⟨rb, hrb⟩ : ∃ rb, w.heap.size + 1 = rb := ⟨_, rfl⟩
  rw [hrb] at p1 ⊢
  have hrbb : rb ≠ b := by omega
  have hrb0 : w.heap.size ≤ rb := by omega
  have HRBX := Lib.hid hrb
  have c0 := cells_row q1 0 _ rfl
  have c1 := cells_row q1 1 _ rfl
  have c2 := cells_row q1 2 _ rfl
  have c3 := cells_row q1 3 _ rfl
  have HW1 := Lib.hid (And.intro q1 (And.intro p1 (And.intro b1 f1)))
  clear hw1 r0 z0 n1 n2 n3 n4 hrb q1 p1 b1 f1
  obtain ⟨hm0, hm1⟩ := HK.out.2.1 (.inl HK.out.1)
  have htake := take_any R l nv b tk (bg + 1) (m + 1) w1 HW1.out.2.2.1 (HN.out.fr HW1.out.2.2.2 HRB.out) htk' (by omega) (by omega)
  obtain ⟨x, hx⟩ : ∃ x : Nat, numE l tk % (m + 1) = x := ⟨(numE l tk % (m + 1)).toNat, by have := Int.emod_nonneg (numE l tk) (show m + 1 ≠ 0 by omega); omega⟩
  have hx1 : x ≤ 60 := by have := Int.emod_lt_of_pos (numE l tk) (show 0 < m + 1 by omega); omega
  rw [hx] at htake
  have HX := Lib.hid hx
  clear hx
  go_wp2_with fail
  refine htake.mono ?_
  rintro e wt ⟨rfl, ft, bt⟩
  go_wp2_with fail
  refine (letters_any x (by omega) _).mono ?_
  rintro e w2 ⟨rfl, fl⟩
  have f2 : Fr (fun k => k = b) w1 w2 := ft.trans fl (fun _ _ h => h.elim)
  have b2 := bt.fr fl (fun h => h)
  clear htake ft fl bt
  have p2 := box_kept HW1.out.2.1 f2 (fun e => hrbb e)
  have t0 := cells_row p2 0 _ rfl
  have t1 := cells_row p2 1 _ rfl
  have t2 := cells_row p2 2 _ rfl
  have t3 := cells_row p2 3 _ rfl
  have u0 : w2.frozen? ⟨rb, 0, none⟩ = false := by simp [World.frozen?, p2]
  have u1 : w2.frozen? ⟨rb, 1, none⟩ = false := by simp [World.frozen?, p2]
  have u2 : w2.frozen? ⟨rb, 2, none⟩ = false := by simp [World.frozen?, p2]
  have u3 : w2.frozen? ⟨rb, 3, none⟩ = false := by simp [World.frozen?, p2]
  have H2 := Lib.hid (And.intro p2 (And.intro (HW1.out.2.2.2.trans f2 (fun _ _ h => h)) b2))
  clear f2 b2 p2 c0 c1 c2 c3
  go_wp2
  refine bodyPost_ret (results_cell_row rfl _ _ rb 39 _ _ _ rfl (store_four H2.out.1) Tryz.underlying39 rfl (by kernel_rfl)) rfl ?_
  refine build_done H2.out.1 H2.out.2.1 H2.out.2.2 hrbb hrb0 (by unfold buildE; have hk := HK.out.1; subst hk; simp only [HX.out, Int.toNat_natCast]; rfl) (by unfold VB maxLen; rw [lettersE_length]; omega) (.inl rfl)
end
end Go.Proofs.YtplipjijaaejlaaGreat
