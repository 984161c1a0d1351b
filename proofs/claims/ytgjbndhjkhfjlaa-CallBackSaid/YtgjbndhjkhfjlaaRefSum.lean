/-
  What the document's answer for a checksum gives: the register's, turned.
-/
import Derived.Test.YtgjbndhjkhfjlaaRefBits
import Derived.BigRegion
import Derived.Deep.LoopGhost
namespace Go.Proofs.Ytgjbndhjkhfjlaa
open Go.RowKit

theorem byte_bit (c : UInt8) (j : Nat) : ((c.toNat : Int) / 2 ^ (7 - j)).tmod 2 = if c.toNat.testBit (7 - j) then 1 else 0 := by
  have e : ((c.toNat : Int) / 2 ^ (7 - j)) = ((c.toNat / 2 ^ (7 - j) : Nat) : Int) := by simp
  rw [e, Int.tmod_eq_emod_of_nonneg (Int.natCast_nonneg _), Nat.testBit_eq_decide_div_mod_eq]
  by_cases h : c.toNat / 2 ^ (7 - j) % 2 = 1
  · rw [decide_eq_true h]; simp; omega
  · rw [decide_eq_false h]; simp; omega
theorem byte_take (c : UInt8) (j : Nat) (h : j < 8) : (Crc.byteBits c).take (j + 1) = (Crc.byteBits c).take j ++ [c.toNat.testBit (7 - j)] := by
  match j, h with
  | 0, _ => rfl
  | 1, _ => rfl
  | 2, _ => rfl
  | 3, _ => rfl
  | 4, _ => rfl
  | 5, _ => rfl
  | 6, _ => rfl
  | 7, _ => rfl

/-- What the first loops keep: a row of bits made since w. -/
structure BitsRel (w : World) (u : Value) (ms : List Bool) (wr : World) : Prop where
  fr : Fr (fun _ => False) w wr
  row : RowB wr u ms
  new : ∀ k, u.ownBlock = some k → w.heap.size ≤ k

/-- What the later loops keep. -/
structure RowRel (w : World) (g c N : Nat) (F : Nat → Bool) (wr : World) : Prop where
  fr : Fr (fun _ => False) w wr
  row : RowB wr (.slice (some ⟨g, 0, none⟩) N c) (rowOf N F)
  new : w.heap.size ≤ g

/-- A cell of the row, as the walk wants it. -/
theorem RowRel.cell {w wr : World} {g c N : Nat} {F : Nat → Bool} (h : RowRel w g c N F wr) (i : Nat) (hi : i < N) :
    ∃ C : Int, wr.cell? ⟨g, i, none⟩ = some (.int .u8 C) ∧ 0 ≤ C ∧ C ≤ 1 ∧ (C = if F i then 1 else 0) ∧ Value.int .u8 (1 - C) = bitv (!F i) :=
  ⟨if F i then 1 else 0, rowb_at h.row i hi, by split <;> omega, by split <;> omega, rfl, not_bitv _⟩

theorem RowRel.flip {w wr : World} {g c N : Nat} {F : Nat → Bool} (h : RowRel w g c N F wr) (i : Nat) : RowRel w g c N (fun x => F x ^^ decide (x = i)) (wr.setCell ⟨g, i, none⟩ (bitv (!F i))) :=
  ⟨h.fr.setCell (p := ⟨g, i, none⟩) (fun h' => absurd h' (by have := h.new; simp; omega)) _, rowb_flip h.row i, h.new⟩

theorem RowRel.drew {w wr : World} {g c N : Nat} {F : Nat → Bool} (h : RowRel w g c N F wr) : RowRel w g c N F wr.drew := ⟨h.fr.drew, h.row, h.new⟩
theorem RowRel.alloc {w wr : World} {g c N : Nat} {F : Nat → Bool} (h : RowRel w g c N F wr) (o : Obj) : RowRel w g c N F (wr.alloc o) := ⟨h.fr.alloc o, World.ownsRow.alloc h.row o, h.new⟩

/-- The polynomial's places, as the document's answer keeps them. -/
def TermsAt (wr : World) (b : Nat) : Prop := ∀ k, k < 15 → wr.cell? ⟨b, k, none⟩ = some (.int .i64 ((Crc.terms.getD k 0 : Nat) : Int))

theorem TermsAt.set {wr : World} {b g : Nat} (h : TermsAt wr b) (hne : g ≠ b) (i : Nat) (u : Value) : TermsAt (wr.setCell ⟨g, i, none⟩ u).drew b := by
  intro k hk
  rw [← h k hk]
  exact World.cell?_of_block (w := wr) (a := ⟨b, k, none⟩) (Below.heap_setCell wr ⟨g, i, none⟩ u b (fun e => hne e.symm))

theorem terms_new (wr : World) : TermsAt (wr.alloc (.cells #[.int .i64 0, .int .i64 6, .int .i64 9, .int .i64 10, .int .i64 16, .int .i64 20, .int .i64 21, .int .i64 22, .int .i64 24, .int .i64 25, .int .i64 27, .int .i64 28, .int .i64 30, .int .i64 31, .int .i64 32] 3)) wr.heap.size := by
  intro k hk
  rw [cell_of_row _ _ k _ _ (0, 0) (heap_alloc_new wr _)]
  match k, hk with
  | 0, _ | 1, _ | 2, _ | 3, _ | 4, _ | 5, _ | 6, _ | 7, _ | 8, _ | 9, _ | 10, _ | 11, _ | 12, _ | 13, _ | 14, _ => rfl

theorem terms_step : ∀ k : Fin 15, ∀ d : Fin 33, (Crc.terms.take (k.val + 1)).contains d.val = ((Crc.terms.take k.val).contains d.val ^^ decide (d.val = Crc.terms.getD k.val 0)) := by decide +kernel
theorem terms_small : ∀ k : Fin 15, Crc.terms.getD k.val 0 ≤ 32 := by decide
theorem terms_far (k d : Nat) (h : 32 < d) : (Crc.terms.take k).contains d = false := by
  rw [Bool.eq_false_iff]
  intro hc
  have hm := List.mem_of_mem_take (List.contains_iff_mem.1 hc)
  have : ∀ x ∈ Crc.terms, x ≤ 32 := by decide
  have := this d hm
  omega

/-- Behind k places turned. -/
def part (i k : Nat) (G : Nat → Bool) : Nat → Bool := fun x => G x ^^ (decide (i ≤ x) && (Crc.terms.take k).contains (x - i))

theorem part_zero (i : Nat) (G : Nat → Bool) : part i 0 G = G := by funext x; simp [part]
theorem part_step (i k : Nat) (G : Nat → Bool) (hk : k < 15) : (fun x => part i k G x ^^ decide (x = i + Crc.terms.getD k 0)) = part i (k + 1) G := by
  funext x
  unfold part
  rw [Bool.xor_assoc]
  congr 1
  by_cases hx : i ≤ x
  · by_cases hd : x - i ≤ 32
    · have := terms_step ⟨k, hk⟩ ⟨x - i, by omega⟩
      simp only at this
      rw [this, decide_eq_true hx, Bool.true_and, Bool.true_and]
      congr 1
      rw [Bool.eq_iff_iff]
      simp
      omega
    · rw [terms_far _ _ (by omega), terms_far _ _ (by omega)]
      have := terms_small ⟨k, hk⟩
      simp only at this
      rw [decide_eq_false (by omega : ¬ x = i + Crc.terms.getD k 0)]
      simp
  · rw [decide_eq_false hx, decide_eq_false (by omega : ¬ x = i + Crc.terms.getD k 0)]
    simp
theorem part_end (i : Nat) (G : Nat → Bool) (h : G i = true) : part i 15 G = Crc.divs i G := by
  funext x
  unfold part Crc.divs
  rw [h, Bool.true_and]
  rfl
theorem divs_none (i : Nat) (G : Nat → Bool) (h : G i = false) : Crc.divs i G = G := by
  funext x
  unfold Crc.divs
  rw [h]
  simp

set_option maxRecDepth 100000 in
set_option maxHeartbeats 4000000 in
theorem refsum_any (v : Value) (l : List UInt8) (w : World) (hs : Sees w v l) (hl : l.length ≤ 300) :
    Calls Try.prog 14 #[v] w fun e w' => e = .returned (.int .u32 (Crc.sum l)) ∧ Fr (fun _ => False) w w' := by
  obtain ⟨i0, hi, hz0, hz1, hz2⟩ := info_parts Try.infoU8
  obtain ⟨a, c, rfl, hn⟩ := hs.shape
  clear hn
  go_enter Try.func14, Try.ntmps14
  go_wp2_with fail
  go_loopg [3, 4] l.length (fun g u i wr => ∃ k : Nat, k ≤ l.length ∧ g = l.length - k ∧ i = .int .i64 k ∧ BitsRel w u (Crc.bits (l.take k)) wr)
  case atStart => exact ⟨0, Nat.zero_le _, rfl, rfl, Fr.refl _ _, World.ownsRow_nil _ _ _ _, by simp [Value.ownBlock]⟩
  case round =>
    obtain ⟨k, hkl, rfl, rfl, hB⟩ := hrel
    by_cases hlt : k < l.length
    · have hc := hs.fr hB.fr (fun _ _ h => h)
      rcases hc with ⟨h0, _⟩ | ⟨g, off, cap, e, hle, hc⟩
      · rw [h0] at hlt; simp at hlt
      simp only [Value.slice.injEq] at e
      obtain ⟨rfl, _, rfl⟩ := e
      have hc0 : w.cell? ⟨g, off + k, none⟩ = some (bv (l.getD k 0)) := by
        rcases hs with ⟨h0, _⟩ | ⟨g', off', cap', e, _, hc'⟩
        · rw [h0] at hlt; simp at hlt
        · simp only [Value.slice.injEq, Option.some.injEq, Addr.mk.injEq] at e
          obtain ⟨⟨rfl, rfl, _⟩, _, _⟩ := e
          exact hc' k hlt
      have Hc0 := Lib.hid hc0
      clear hc hc0
      have hbk : Crc.bits (l.take (k + 1)) = Crc.bits (l.take k) ++ Crc.byteBits (l.getD k 0) := by
        rw [List.take_succ_eq_append_getElem hlt, Crc.bits_append]
        simp [Crc.bits, List.getD, hlt]
      have hlen := Crc.bits_length (l.take k)
      have hll : (l.take k).length ≤ 300 := by simp; omega
      generalize hch : l.getD k 0 = ch at *
      have Hch := Lib.hid hch
      have Hbk := Lib.hid hbk
      clear hch hbk
      generalize Crc.bits (l.take k) = M at *
      have hM : M.length ≤ 2400 := by omega
      clear hlen hll
      go_wp2_with fail
      go_loopg [3, 5] 8 (fun g u i wr => ∃ j : Nat, j ≤ 8 ∧ g = 8 - j ∧ i = .int .i64 (7 - (j : Int)) ∧ BitsRel w u (M ++ (Crc.byteBits ch).take j) wr)
      case atStart => exact ⟨0, by omega, rfl, rfl, by simpa using hB⟩
      case round =>
        clear hB
        obtain ⟨j, hj8, rfl, rfl, hB⟩ := hrel
        by_cases hj : j < 8
        · have hcell : wr.cell? ⟨g, off + k, none⟩ = some (bv ch) := by
            have h1 := Hc0.out
            exact (hB.fr.cell (World.block_lt_of_cell? w _ h1) (fun h => h)).trans h1
          unfold bv at hcell
          have hcb := ch.toNat_lt
          obtain ⟨B, hBd, hBB⟩ : ∃ B : Int, ((ch.toNat : Int) / 2 ^ (7 - j)).tmod 2 = B ∧ B = if ch.toNat.testBit (7 - j) then 1 else 0 := ⟨_, rfl, byte_bit ch j⟩
          have HBB := Lib.hid hBB
          have hjs : (M ++ (Crc.byteBits ch).take j).length = M.length + j := by rw [List.length_append, List.length_take]; simp [Crc.byteBits]; omega
          have htk : M ++ (Crc.byteBits ch).take (j + 1) = M ++ (Crc.byteBits ch).take j ++ [ch.toNat.testBit (7 - j)] := by rw [byte_take ch j hj, List.append_assoc]
          generalize M ++ (Crc.byteBits ch).take j = L at *
          have Htk := Lib.hid htk
          have hL : L.length ≤ 2500 := by omega
          clear hjs htk hBB
          go_wp2_with (at_builtin; refine wpList_append_sep rfl (.tmp 22) (.tmp 30) 23 23 rfl 0 5 i0 (.int .u8 0) 1 1 Try.underlying23 _ Try.underlying23 (.inr ⟨_, rfl⟩) hi hz0 hz1 hz2 rfl (by decide) u3 L.length (L.map bitv) rfl (World.ownsRow.alloc hB.row _) _ 1 [.int .u8 B] rfl (lenOf_slice _ _ _) rfl (by exact first_row (heap_alloc_new wr _) 1 1 rfl) (by exact first_row (heap_alloc_new wr.drew _) 1 1 rfl) (by intro u hu; simp at hu; subst hu; rfl) ?b1 ?b2 (Nat.zero_le _) ?grow)
          case b1 => unfold maxLen; omega
          case b2 => omega
          case grow =>
            intro u' wC ho hg hu
            have hb' : BitsRel w u' (L ++ [ch.toNat.testBit (7 - j)]) wC := by
              refine ⟨(hB.fr.alloc _).trans (Fr.of_grown hg) (fun i hi e => ?_), ?_, ?_⟩
              · have := hB.new i e.symm; omega
              · unfold RowB
                rw [List.length_append, List.map_append]
                have e : [Value.int .u8 B] = List.map bitv [ch.toNat.testBit (7 - j)] := by rw [HBB.out]; rfl
                rw [← e]
                exact ho
              · intro k hk
                rcases hu with e | e
                · exact hB.new k (e ▸ hk)
                · rw [e] at hk; simp at hk; have := hB.fr.size; omega
            rw [← Htk.out] at hb'
            clear ho hg hu hB hcell
            go_wp2_with fail
            go_roundg (8 - (j + 1))
            case measure => omega
            case rel => exact ⟨j + 1, by omega, rfl, by simp; omega, hb'⟩
        · obtain rfl : j = 8 := by omega
          have e8 : (Crc.byteBits ch).take 8 = Crc.byteBits ch := rfl
          rw [e8, ← Hbk.out] at hB
          go_wp2_with fail
          go_roundg (l.length - (k + 1))
          case measure => omega
          case rel => exact ⟨k + 1, by omega, rfl, by simp, hB⟩
    · obtain rfl : k = l.length := by omega
      rw [List.take_length] at hB
      have hlen := Crc.bits_length l
      have Hdiv := Lib.hid (Crc.num_div l)
      rw [← hlen] at Hdiv
      have hM : (Crc.bits l).length ≤ 2400 := by omega
      have HS := Lib.hid hlen
      have hr0 := rowOf_of (Crc.bits l) 32
      have HR0 := Lib.hid hr0
      clear hs hlen hr0
      generalize Crc.bits l = L at *
      generalize hm : L.length = m at *
      have HM := Lib.hid hm; clear hm
      obtain ⟨uz, wz, hrun, hoz, hgz, huz⟩ := run_append_zeros (P := Try.prog) wr 0 23 3 23 5 i0 (.int .u8 0) 1 1 32 .i64 .i64 Try.underlying23 Try.underlying3 hi hz0 hz1 hz2 rfl (by decide) (by rw [zeros_bits]; exact bitv_one _) u3 m (L.map bitv) (by have := hB.row; unfold RowB at this; rw [HM.out] at this; exact this) (by omega) (by unfold maxLen; omega) (by omega) (Nat.zero_le _)
      obtain ⟨g, cz, rfl⟩ : ∃ g cz, uz = .slice (some ⟨g, 0, none⟩) (m + 32) cz := by
        rcases hoz.2 with ⟨_, h0⟩ | ⟨g, cap, cur, e, _⟩
        · omega
        · exact ⟨g, cap, e⟩
      have hRR : RowRel w g cz (m + 32) (fun x => L.getD x false) wz := by
        refine ⟨hB.fr.trans (Fr.of_grown hgz) (fun i hi e => ?_), ?_, ?_⟩
        · have := hB.new i e.symm; omega
        · unfold RowB
          rw [rowOf_length, ← HR0.out, List.map_append, ← zeros_bits]
          exact hoz
        · rcases huz with e | e
          · exact hB.new g e.symm
          · simp [Value.ownBlock] at e; have := hB.fr.size; omega
      clear hB hoz hgz huz HR0
      go_wp2_with (at_builtin; refine Lib.wpList_append_run _ rfl _ _ _ _ rfl _ _ rfl rfl _ _ hrun ?_)
      clear hrun
      go_loopg [6] 32 (fun gg i w2 => ∃ k : Nat, k ≤ 32 ∧ gg = 32 - k ∧ i = .int .i64 k ∧ RowRel w g cz (m + 32) (fun x => L.getD x false ^^ decide (x < k)) w2)
      case atStart => exact ⟨0, by omega, rfl, rfl, by simpa using hRR⟩
      case round =>
        clear hRR
        obtain ⟨k, hk, rfl, rfl, hR⟩ := hrel
        by_cases hlt : k < 32
        · obtain ⟨C, hc, hC0, hC1, hCF, hX⟩ := hR.cell k (by omega)
          have hz := rowb_frozen hR.row k
          have HF := Lib.hid (hR.flip k)
          have HX := Lib.hid hX
          clear hR hX hCF
          go_wp2_with fail
          rw [HX.out]
          have hF := HF.out
          have e : (fun x => (L.getD x false ^^ decide (x < k)) ^^ decide (x = k)) = fun x => L.getD x false ^^ decide (x < k + 1) := by
            funext x
            rw [Bool.xor_assoc]
            congr 1
            by_cases h : x = k
            · subst h; simp
            · rw [decide_eq_false h, Bool.xor_false, Bool.eq_iff_iff]; simp; omega
          rw [e] at hF
          go_roundg (32 - (k + 1))
          case measure => omega
          case rel => exact ⟨k + 1, by omega, rfl, by simp, hF⟩
        · obtain rfl : k = 32 := by omega
          have hR' : RowRel w g cz (m + 32) (Crc.divn 0 (Crc.turned fun x => L.getD x false)) wr := hR
          clear hR
          generalize hG : Crc.turned (fun x => L.getD x false) = G at *
          have HG := Lib.hid hG
          clear hG
          go_wp2_with fail
          have hgb : g < wr.heap.size := World.ownsRow.lt hR'.row g rfl |>.2
          have hT0 : TermsAt (wr.alloc (.cells #[.int .i64 0, .int .i64 6, .int .i64 9, .int .i64 10, .int .i64 16, .int .i64 20, .int .i64 21, .int .i64 22, .int .i64 24, .int .i64 25, .int .i64 27, .int .i64 28, .int .i64 30, .int .i64 31, .int .i64 32] 3)) wr.heap.size := terms_new wr
          have hR0 := hR'.alloc (.cells #[.int .i64 0, .int .i64 6, .int .i64 9, .int .i64 10, .int .i64 16, .int .i64 20, .int .i64 21, .int .i64 22, .int .i64 24, .int .i64 25, .int .i64 27, .int .i64 28, .int .i64 30, .int .i64 31, .int .i64 32] 3)
          generalize wr.alloc (.cells #[.int .i64 0, .int .i64 6, .int .i64 9, .int .i64 10, .int .i64 16, .int .i64 20, .int .i64 21, .int .i64 22, .int .i64 24, .int .i64 25, .int .i64 27, .int .i64 28, .int .i64 30, .int .i64 31, .int .i64 32] 3) = w5 at *
          have hne : g ≠ wr.heap.size := by omega
          generalize wr.heap.size = b at *
          clear hR' hgb
          go_loopg [8, 9] m (fun gg u v w2 => ∃ k : Nat, k ≤ m ∧ gg = m - k ∧ u = .int .i64 k ∧ RowRel w g cz (m + 32) (Crc.divn k G) w2 ∧ TermsAt w2 b)
          case atStart => exact ⟨0, by omega, rfl, rfl, hR0, hT0⟩
          case round =>
            clear hR0 hT0
            obtain ⟨i, hi, rfl, rfl, hR, hT⟩ := hrel
            by_cases hlt : i < m
            · have hstep : Crc.divn (i + 1) G = Crc.divs i (Crc.divn i G) := rfl
              have HST := Lib.hid hstep
              clear hstep
              generalize Crc.divn i G = D at *
              have hcell := rowb_at hR.row i (by omega)
              cases hDi : D i with
              | false =>
                rw [hDi] at hcell
                have e := divs_none i D hDi
                unfold bitv at hcell
                simp only [Bool.false_eq_true, if_false] at hcell
                have HR := Lib.hid hR
                have HT := Lib.hid hT
                clear hR hT
                go_wp2_with fail
                go_roundg (m - (i + 1))
                case measure => omega
                case rel => exact ⟨i + 1, by omega, rfl, by simp, by rw [HST.out, e]; exact HR.out, HT.out⟩
              | true =>
                rw [hDi] at hcell
                have e := part_end i D hDi
                rw [← e] at HST
                unfold bitv at hcell
                simp only [if_true] at hcell
                have h0 : RowRel w g cz (m + 32) (part i 0 D) wr := by rw [part_zero]; exact hR
                have H0 := Lib.hid h0
                have HT := Lib.hid hT
                clear hR hT h0 e
                go_wp2_with fail
                go_loopg [9] 15 (fun gg u w2 => ∃ k : Nat, k ≤ 15 ∧ gg = 15 - k ∧ u = .int .i64 k ∧ RowRel w g cz (m + 32) (part i k D) w2 ∧ TermsAt w2 b)
                case atStart => exact ⟨0, by omega, rfl, rfl, H0.out, HT.out⟩
                case round =>
                  clear H0 HT hcell
                  obtain ⟨k, hk, rfl, rfl, hR, hT⟩ := hrel
                  by_cases hlt2 : k < 15
                  · have ht := hT k hlt2
                    have hts := terms_small ⟨k, hlt2⟩
                    simp only at hts
                    have hps := part_step i k D hlt2
                    generalize Crc.terms.getD k 0 = t at *
                    have hc := rowb_at hR.row (i + t) (by omega)
                    have hz := rowb_frozen hR.row (i + t)
                    have hF := (hR.flip (i + t)).drew
                    rw [hps] at hF
                    have hTT := hT.set hne (i + t) (bitv (!part i k D (i + t)))
                    have hit : i + t < m + 32 := by omega
                    have hitz : (i : Int) + (t : Int) < (m : Int) + 32 := by omega
                    clear hps hT hR
                    cases hb : part i k D (i + t) with
                    | false =>
                      rw [hb] at hc hF hTT
                      have hc' : wr.cell? ⟨g, i + t, none⟩ = some (.int .u8 0) := hc
                      have HF := Lib.hid hF
                      have HT := Lib.hid hTT
                      clear hc hF hTT hb
                      go_wp2_with fail
                      go_region
                      all_goals
                        go_wp2_with fail
                        go_roundg (15 - (k + 1))
                        case measure => omega
                        case rel => exact ⟨k + 1, by omega, rfl, by simp, HF.out, HT.out⟩
                    | true =>
                      rw [hb] at hc hF hTT
                      have hc' : wr.cell? ⟨g, i + t, none⟩ = some (.int .u8 1) := hc
                      have HF := Lib.hid hF
                      have HT := Lib.hid hTT
                      clear hc hF hTT hb
                      go_wp2_with fail
                      go_region
                      all_goals
                        go_wp2_with fail
                        go_roundg (15 - (k + 1))
                        case measure => omega
                        case rel => exact ⟨k + 1, by omega, rfl, by simp, HF.out, HT.out⟩
                  · obtain rfl : k = 15 := by omega
                    rw [← HST.out] at hR
                    go_wp2_with fail
                    go_roundg (m - (i + 1))
                    case measure => omega
                    case rel => exact ⟨i + 1, by omega, rfl, by simp, hR, hT⟩
            · obtain rfl : i = m := by omega
              clear hT
              have hdiv : Crc.num (rowOf 32 fun d => !Crc.divn i G (i + d)) = Crc.sum l := Hdiv.out
              have HD := Lib.hid hdiv
              clear hdiv
              generalize Crc.divn i G = D at *
              go_wp2_with fail
              go_loopg [10, 11] 32 (fun gg u v w2 => ∃ k : Nat, k ≤ 32 ∧ gg = 32 - k ∧ v = .int .i64 ((i + k : Nat) : Int) ∧ u = .int .u32 (Crc.num (rowOf k fun d => !D (i + d))) ∧ wr = w2)
              case atStart => exact ⟨0, by omega, rfl, by simp, rfl, rfl⟩
              case round =>
                obtain ⟨k, hk, rfl, rfl, rfl, rfl⟩ := hrel
                by_cases hlt2 : k < 32
                · have hc := rowb_at hR.row (i + k) (by omega)
                  have hn1 : Crc.num (rowOf k fun d => !D (i + d)) < 2 ^ 31 := Crc.num_small _ 31 (by rw [rowOf_length]; omega)
                  have hn2 : Crc.num (rowOf (k + 1) fun d => !D (i + d)) = Crc.num (rowOf k fun d => !D (i + d)) * 2 + (!D (i + k)).toNat := by
                    have : rowOf (k + 1) (fun d => !D (i + d)) = rowOf k (fun d => !D (i + d)) ++ [!D (i + k)] := by simp [rowOf, List.range_succ]
                    rw [this, Crc.num_snoc]
                  have HN := Lib.hid hn2
                  have HR := Lib.hid hR
                  clear hR hn2
                  generalize Crc.num (rowOf k fun d => !D (i + d)) = n at *
                  have hik : i + k < i + 32 := by omega
                  cases hb : D (i + k) with
                  | false =>
                    rw [hb] at hc
                    have hc' := (show _ = some (Value.int .u8 0) from hc)
                    have hv := HN.out
                    rw [hb] at hv
                    have HV := Lib.hid hv
                    clear hc hb hv HN
                    go_wp2_with fail
                    go_roundg (32 - (k + 1))
                    case measure => omega
                    case rel =>
                      refine ⟨k + 1, by omega, rfl, by simp; omega, ?_, rfl⟩
                      rw [HV.out]
                      simp
                  | true =>
                    rw [hb] at hc
                    have hc' := (show _ = some (Value.int .u8 1) from hc)
                    have hv := HN.out
                    rw [hb] at hv
                    have HV := Lib.hid hv
                    clear hc hb hv HN
                    go_wp2_with fail
                    go_roundg (32 - (k + 1))
                    case measure => omega
                    case rel =>
                      refine ⟨k + 1, by omega, rfl, by simp; omega, ?_, rfl⟩
                      rw [HV.out]
                      simp
                · obtain rfl : k = 32 := by omega
                  rw [HD.out]
                  have HF := Lib.hid hR.fr
                  clear hR
                  go_wp2_with fail
                  go_ret
                  exact ⟨rfl, HF.out⟩

end Go.Proofs.Ytgjbndhjkhfjlaa
