import Derived.Test.YtempdkoflofglaaGreatDoorPX1
namespace Go.Proofs.YtempdkoflofglaaGreatDoor
open Go.RowKit
set_option linter.unusedVariables false

theorem TBL_op : (TBL.all fun t => decide (1 ≤ t.2.1 ∧ t.2.1 ≤ 13)) = true := by decide
theorem TBL_word : (TBL.all fun t => decide (1 ≤ t.1.size)) = true := by decide

theorem pT_none' {zs : List ByteArray} (hf : TBL.find? (fun t => decide (t.1 = txt zs 0)) = none) : pT zs = (11, cmd0 0) := by
  by_cases h : Lib.containsS zs eT = true
  · exact pT_empty h
  · exact pT_none (by simpa using h) hf
theorem pT_len' {zs : List ByteArray} {t : ByteArray × Int × List Int} (hf : TBL.find? (fun t => decide (t.1 = txt zs 0)) = some t) (hl : ¬ zs.length = 1 + t.2.2.length) : pT zs = (11, cmd0 0) := by
  by_cases h : Lib.containsS zs eT = true
  · exact pT_empty h
  · exact pT_len (by simpa using h) hf hl
theorem empty_size {s : ByteArray} (h : s.toList.isEmpty = true) : s.size = 0 := by
  by_cases e : s.size = 0
  · exact e
  · rw [empty_of e] at h; cases h
theorem full_size {s : ByteArray} (h : s.toList.isEmpty = false) : 1 ≤ s.size := by
  rcases Nat.lt_or_ge 0 s.size with h1 | h1
  · exact h1
  · exfalso
    have e : s = { data := #[] } := by
      cases s with
      | mk d => simp [ByteArray.size] at h1; rw [h1]
    subst e
    rw [ByteArray.toList_eq] at h
    exact absurd h (by decide)
theorem pT_syn {zs : List ByteArray} {t : ByteArray × Int × List Int} (hf : TBL.find? (fun t => decide (t.1 = txt zs 0)) = some t) (hl : zs.length = 1 + t.2.2.length) (k : Nat) (hk : k < t.2.2.length) (hb : (txt zs (k + 1)).toList.isEmpty = true ∨ lyG t.2.2 zs k = false) : pT zs = (11, cmd0 0) := by
  by_cases h : Lib.containsS zs eT = true
  · exact pT_empty h
  · have h' : Lib.containsS zs eT = false := by simpa using h
    rcases hb with hb | hb
    · have := word_pos h' (k + 1) (by omega) (txt_mem zs (k + 1) (by omega))
      rw [empty_size hb] at this
      omega
    · exact pT_bad h' hf hl (lyA_bad k hk hb)
theorem pT_fine {zs : List ByteArray} {t : ByteArray × Int × List Int} (hf : TBL.find? (fun t => decide (t.1 = txt zs 0)) = some t) (hl : zs.length = 1 + t.2.2.length) (H : ∀ j, j < t.2.2.length → 1 ≤ (txt zs (j + 1)).size ∧ lyG t.2.2 zs j = true) : pT zs = (0, lyN (cmd0 t.2.1) t.2.2 zs t.2.2.length) := by
  have h0 : 1 ≤ (txt zs 0).size := by
    have h1 := of_decide_eq_true (List.all_eq_true.1 TBL_word _ (List.mem_of_find?_eq_some hf))
    have h2 := List.find?_some hf
    rw [← of_decide_eq_true h2]; exact h1
  have hne : Lib.containsS zs eT = false := by
    by_cases h : Lib.containsS zs eT = true
    · exfalso
      have hm := (Lib.containsS_iff zs eT).1 h
      obtain ⟨i, hi, he⟩ := List.getElem_of_mem hm
      have ht : txt zs i = eT := by simp only [txt, List.getD_eq_getElem?_getD, List.getElem?_eq_getElem hi, Option.getD_some]; exact he
      have hz : (txt zs i).size = 0 := by rw [ht]; rfl
      rcases i with _ | i
      · omega
      · have := (H i (by omega)).1; omega
    · simpa using h
  exact pT_good hne hf hl (lyA_good fun i hi => (H i hi).2)

/-- the letters, one by one -/
def letN (k : Int) : Nat := ((#[84, 80, 81, 79, 76, 67, 68, 77] : Array UInt8).getD k.toNat 0).toNat
theorem lets_size (ks : List Int) : (lets ks).size = ks.length := by simp [lets, ByteArray.size]
theorem lets_at (ks : List Int) (k : Nat) (h : k < (lets ks).size) : ((lets ks)[k]'h).toNat = letN (ks.getD k 0) := by
  have hk : k < ks.length := by rw [lets_size] at h; exact h
  show ((lets ks).data[k]'h).toNat = _
  simp only [lets, List.getElem_toArray, List.getElem_map, letN]
  rw [List.getD_eq_getElem?_getD, List.getElem?_eq_getElem hk, Option.getD_some]

theorem lay_empty (k : Nat) (hk : k = 0 ∨ k = 3 ∨ k = 4 ∨ k = 5 ∨ k = 7) {s : ByteArray} (h : layG k s = true) : 1 ≤ s.size := by
  rcases Nat.lt_or_ge 0 s.size with h1 | h1
  · exact h1
  · exfalso
    have e : s = { data := #[] } := by
      cases s with
      | mk d => simp [ByteArray.size] at h1; rw [h1]
    subst e
    rcases hk with rfl | rfl | rfl | rfl | rfl
    · exact absurd h (by decide)
    · exact absurd h (by decide)
    · exact absurd h (by decide)
    · exact absurd h (by decide)
    · simp only [layG, ByteArray.toList_eq] at h
      exact absurd h (by decide)

set_option maxRecDepth 100000 in
set_option maxHeartbeats 16000000 in
theorem specParse_any (s : ByteArray) (w : World) (hs : s.size ≤ 1048576) :
    Calls Tryz.prog 4 #[.string s] w fun e w' => e = .returned (.tuple #[.agg (pS s).2.cells, .int .i64 (pS s).1]) ∧ Below w.heap.size w w' := by
  obtain ⟨W0, hW0⟩ : ∃ W0, W0 = w.alloc (.cells (cmd0 0).cells 23) := ⟨_, rfl⟩
  have hR0 : CBox W0 w.heap.size (cmd0 0) := by rw [hW0]; exact CBox.made _ _ _ rfl
  have hB0 : Below w.heap.size w W0 := by rw [hW0]; exact belowA _ _
  have hs0 : w.heap.size + 1 ≤ W0.heap.size := by rw [hW0]; simp
  have HW0 : Hid (W0 = w.alloc (.cells #[.int .i64 0, .int .i64 0, .string { data := #[] }, .string { data := #[] }, .int .i64 0, .int .i64 0, .string { data := #[] }] 23)) := hW0
  clear hW0
  have hend : ∀ (W : World), Below w.heap.size w W → ∀ z0 z1 z2 z3 z4 z5 z6 : Value, Below w.heap.size w (((((((W.setCell ⟨w.heap.size, 0, none⟩ z0).setCell ⟨w.heap.size, 1, none⟩ z1).setCell ⟨w.heap.size, 2, none⟩ z2).setCell ⟨w.heap.size, 3, none⟩ z3).setCell ⟨w.heap.size, 4, none⟩ z4).setCell ⟨w.heap.size, 5, none⟩ z5).setCell ⟨w.heap.size, 6, none⟩ z6) := fun W h z0 z1 z2 z3 z4 z5 z6 =>
    have p0 : w.heap.size ≤ w.heap.size := Nat.le_refl _
    ((((((h.setCell (p := ⟨w.heap.size, 0, none⟩) p0 z0).setCell (p := ⟨w.heap.size, 1, none⟩) p0 z1).setCell (p := ⟨w.heap.size, 2, none⟩) p0 z2).setCell (p := ⟨w.heap.size, 3, none⟩) p0 z3).setCell (p := ⟨w.heap.size, 4, none⟩) p0 z4).setCell (p := ⟨w.heap.size, 5, none⟩) p0 z5).setCell (p := ⟨w.heap.size, 6, none⟩) p0 z6
  by_cases h15 : 1500 < s.size
  · have HR : Hid (pS s = (4, cmd0 0)) := by show pS s = _; rw [pS, if_pos h15]
    go_enter Tryz.func4, Tryz.ntmps4
    go_upto_region 1 with fail
    rw [← HW0.out]
    have x0 : W0.cell? ⟨w.heap.size, 0, none⟩ = some (.int .i64 0) := (hR0).cell 0
    have x1 : W0.cell? ⟨w.heap.size, 1, none⟩ = some (.int .i64 0) := (hR0).cell 1
    have x2 : W0.cell? ⟨w.heap.size, 2, none⟩ = some (.string { data := #[] }) := (hR0).cell 2
    have x3 : W0.cell? ⟨w.heap.size, 3, none⟩ = some (.string { data := #[] }) := (hR0).cell 3
    have x4 : W0.cell? ⟨w.heap.size, 4, none⟩ = some (.int .i64 0) := (hR0).cell 4
    have x5 : W0.cell? ⟨w.heap.size, 5, none⟩ = some (.int .i64 0) := (hR0).cell 5
    have x6 : W0.cell? ⟨w.heap.size, 6, none⟩ = some (.string { data := #[] }) := (hR0).cell 6
    have q1 := (hR0).free
    have HB : Hid (Below w.heap.size w W0) := hB0
    go_wp2_with fail
    exact bodyPost_ret (v := .tuple #[.agg #[.int .i64 0, .int .i64 0, .string { data := #[] }, .string { data := #[] }, .int .i64 0, .int .i64 0, .string { data := #[] }], .int .i64 4]) (by simp [results, Tryz.results4, go_sem, x0, x1, x2, x3, x4, x5, x6]) rfl ⟨by rw [HR.out]; rfl, hend _ HB.out _ _ _ _ _ _ _⟩
  · go_enter Tryz.func4, Tryz.ntmps4
    go_upto_region 1 with fail
    rw [← HW0.out]
    go_wp2_with fail
    go_loop [4] (fun i => ∃ j : Nat, j ≤ s.size ∧ i = .int .i64 j ∧ ∀ k (h : k < s.size), k < j → gdL (s[k]'h).toNat = true) (fun i => s.size - (intOf i).toNat)
    case atStart => exact ⟨0, Nat.zero_le _, rfl, fun k _ hk => by omega⟩
    case round =>
      obtain ⟨j, hj, rfl, hg⟩ := hrel
      have HG : Hid (∀ k (h : k < s.size), k < j → gdL (s[k]'h).toNat = true) := hg
      clear hg
      by_cases hlt : j < s.size
      · by_cases h1 : 32 ≤ (s[j]'hlt).toNat
        · by_cases h2 : (s[j]'hlt).toNat ≤ 126
          · have hok : gdL (s[j]'hlt).toNat = true := by simp [gdL, h1, h2]
            go_wp2
            go_round
            case rel =>
              refine ⟨j + 1, by omega, by go_num, fun k h hk => ?_⟩
              by_cases e : k = j
              · subst e; exact hok
              · exact HG.out k h (by omega)
            case measure => simp [intOf]; omega
          · have HR : Hid (pS s = (11, cmd0 0)) := by show pS s = _; rw [pS, if_neg h15, if_pos (allB_bad j hlt (by simp [gdL, h2]))]
            go_upto_region 7 with fail
            have x0 : W0.cell? ⟨w.heap.size, 0, none⟩ = some (.int .i64 0) := (hR0).cell 0
            have x1 : W0.cell? ⟨w.heap.size, 1, none⟩ = some (.int .i64 0) := (hR0).cell 1
            have x2 : W0.cell? ⟨w.heap.size, 2, none⟩ = some (.string { data := #[] }) := (hR0).cell 2
            have x3 : W0.cell? ⟨w.heap.size, 3, none⟩ = some (.string { data := #[] }) := (hR0).cell 3
            have x4 : W0.cell? ⟨w.heap.size, 4, none⟩ = some (.int .i64 0) := (hR0).cell 4
            have x5 : W0.cell? ⟨w.heap.size, 5, none⟩ = some (.int .i64 0) := (hR0).cell 5
            have x6 : W0.cell? ⟨w.heap.size, 6, none⟩ = some (.string { data := #[] }) := (hR0).cell 6
            have q1 := (hR0).free
            have HB : Hid (Below w.heap.size w W0) := hB0
            go_wp2_with fail
            exact bodyPost_ret (v := .tuple #[.agg #[.int .i64 0, .int .i64 0, .string { data := #[] }, .string { data := #[] }, .int .i64 0, .int .i64 0, .string { data := #[] }], .int .i64 11]) (by simp [results, Tryz.results4, go_sem, x0, x1, x2, x3, x4, x5, x6]) rfl ⟨by rw [HR.out]; rfl, hend _ HB.out _ _ _ _ _ _ _⟩
        · have HR : Hid (pS s = (11, cmd0 0)) := by show pS s = _; rw [pS, if_neg h15, if_pos (allB_bad j hlt (by simp [gdL, h1]))]
          go_upto_region 7 with fail
          have x0 : W0.cell? ⟨w.heap.size, 0, none⟩ = some (.int .i64 0) := (hR0).cell 0
          have x1 : W0.cell? ⟨w.heap.size, 1, none⟩ = some (.int .i64 0) := (hR0).cell 1
          have x2 : W0.cell? ⟨w.heap.size, 2, none⟩ = some (.string { data := #[] }) := (hR0).cell 2
          have x3 : W0.cell? ⟨w.heap.size, 3, none⟩ = some (.string { data := #[] }) := (hR0).cell 3
          have x4 : W0.cell? ⟨w.heap.size, 4, none⟩ = some (.int .i64 0) := (hR0).cell 4
          have x5 : W0.cell? ⟨w.heap.size, 5, none⟩ = some (.int .i64 0) := (hR0).cell 5
          have x6 : W0.cell? ⟨w.heap.size, 6, none⟩ = some (.string { data := #[] }) := (hR0).cell 6
          have q1 := (hR0).free
          have HB : Hid (Below w.heap.size w W0) := hB0
          go_wp2_with fail
          exact bodyPost_ret (v := .tuple #[.agg #[.int .i64 0, .int .i64 0, .string { data := #[] }, .string { data := #[] }, .int .i64 0, .int .i64 0, .string { data := #[] }], .int .i64 11]) (by simp [results, Tryz.results4, go_sem, x0, x1, x2, x3, x4, x5, x6]) rfl ⟨by rw [HR.out]; rfl, hend _ HB.out _ _ _ _ _ _ _⟩
      · have HP1 : Hid (pS s = pT (cut s)) := by
          show pS s = _
          rw [pS, if_neg h15, if_neg (by rw [(allB_iff gdL s).2 fun k h => HG.out k h (by omega)]; decide)]
        clear HG
        go_wp2_with (go_at_call 7; refine (l6Cut_any s W0 (by omega)).mono ?_; rintro e w1 ⟨v, rfl, hown, hb1⟩; obtain ⟨va, vc, rfl, hc⟩ := hown)
        obtain ⟨hpl, hp1, hpx⟩ := cut_pieces _ s (Nat.le_refl _)
        obtain ⟨vb, vo, rfl, g1, g2, g3, hcell⟩ := hc (by omega)
        have HP : Hid (∀ i, i < (cut s).length → (txt (cut s) i).size ≤ s.size) := fun i hi => (hpx _ (txt_mem _ i hi)).1
        have hc1 : ∀ i, i < (cut s).length → w1.cell? ⟨vb, vo + i, none⟩ = some (.string (txt (cut s) i)) := fun i hi => (hcell i hi).1
        have hR1 := hR0.below hb1
        have hs1 := hb1.size
        have hB1 := hB0.trans (hb1.mono (by omega))
        clear hc hpx hcell hR0 hb1
        generalize cut s = zs at *
        have hc0 : w1.cell? ⟨vb, vo, none⟩ = some (.string (txt zs 0)) := hc1 0 (by omega)
        cases hf : TBL.find? (fun t => decide (t.1 = txt zs 0)) with
        | none =>
          have HR : Hid (pS s = (11, cmd0 0)) := HP1.out.trans (pT_none' hf)
          have e0 : wdT (txt zs 0) = (0, eT) := by rw [wdT, hf]
          have hW := l6Word_any (txt zs 0) w1
          rw [e0] at hW
          clear e0 hf
          go_upto_region 11 with (go_at_call 8; refine hW.mono ?_; rintro e w2 ⟨rfl, hw2⟩; rw [hw2])
          have x0 : w1.cell? ⟨w.heap.size, 0, none⟩ = some (.int .i64 0) := (hR1).cell 0
          have x1 : w1.cell? ⟨w.heap.size, 1, none⟩ = some (.int .i64 0) := (hR1).cell 1
          have x2 : w1.cell? ⟨w.heap.size, 2, none⟩ = some (.string { data := #[] }) := (hR1).cell 2
          have x3 : w1.cell? ⟨w.heap.size, 3, none⟩ = some (.string { data := #[] }) := (hR1).cell 3
          have x4 : w1.cell? ⟨w.heap.size, 4, none⟩ = some (.int .i64 0) := (hR1).cell 4
          have x5 : w1.cell? ⟨w.heap.size, 5, none⟩ = some (.int .i64 0) := (hR1).cell 5
          have x6 : w1.cell? ⟨w.heap.size, 6, none⟩ = some (.string { data := #[] }) := (hR1).cell 6
          have q1 := (hR1).free
          have HB : Hid (Below w.heap.size w w1) := hB1
          go_wp2_with fail
          exact bodyPost_ret (v := .tuple #[.agg #[.int .i64 0, .int .i64 0, .string { data := #[] }, .string { data := #[] }, .int .i64 0, .int .i64 0, .string { data := #[] }], .int .i64 11]) (by simp [results, Tryz.results4, go_sem, x0, x1, x2, x3, x4, x5, x6]) rfl ⟨by rw [HR.out]; rfl, hend _ HB.out _ _ _ _ _ _ _⟩
        | some t =>
          obtain ⟨tk, op, ks⟩ := t
          have e0 : wdT (txt zs 0) = (op, lets ks) := by rw [wdT, hf]
          have hop : 1 ≤ op ∧ op ≤ 13 := of_decide_eq_true (List.all_eq_true.1 TBL_op _ (List.mem_of_find?_eq_some hf))
          have hop0 : (op == 0) = false := by
            apply Bool.eq_false_iff.2
            intro e
            have := beq_iff_eq.1 e
            omega
          have HK : Hid (∀ i, i < ks.length → 0 ≤ ks.getD i 0 ∧ ks.getD i 0 ≤ 7) := fun i hi => by
            have h1 := List.all_eq_true.1 TBL_kinds _ (List.mem_of_find?_eq_some hf)
            have h2 := List.all_eq_true.1 h1 (ks.getD i 0) (by simp only [List.getD_eq_getElem?_getD, List.getElem?_eq_getElem hi, Option.getD_some]; exact List.getElem_mem hi)
            exact of_decide_eq_true h2
          have hkl : ks.length ≤ 1000 := by
            have h1 : (TBL.all fun t => decide (t.2.2.length ≤ 1000)) = true := by decide
            exact of_decide_eq_true (List.all_eq_true.1 h1 _ (List.mem_of_find?_eq_some hf))
          have hW := l6Word_any (txt zs 0) w1
          rw [e0] at hW
          have hLs := lets_size ks
          have HLA : Hid (∀ k (h : k < (lets ks).size), ((lets ks)[k]'h).toNat = letN (ks.getD k 0)) := lets_at ks
          clear e0
          generalize lets ks = L at *
          by_cases hl : zs.length = 1 + ks.length
          · have hne : ((zs.length : Int) != 1 + (L.size : Int)) = false := by simp; omega
            have HL : Hid (zs.length = 1 + ks.length) := hl
            have HF : Hid _ := hf
            have hl1 : zs.length ≤ 1 + ks.length := by omega
            have hl2 : 1 + ks.length ≤ zs.length := by omega
            have hls1 : L.size ≤ ks.length := by omega
            have hls2 : ks.length ≤ L.size := by omega
            clear hl hLs hf
            go_upto_region 12 with (go_at_call 8; refine hW.mono ?_; rintro e w2 ⟨rfl, hw2⟩; rw [hw2])
            obtain ⟨W2, hW2⟩ : ∃ W2, W2 = w1.alloc (.cells (cmd0 op).cells 23) := ⟨_, rfl⟩
            have hC2 : CBox W2 w1.heap.size (cmd0 op) := by rw [hW2]; exact CBox.made _ _ _ rfl
            have hA2 : Below w1.heap.size w1 W2 := by rw [hW2]; exact belowA _ _
            have HW2 : Hid (W2 = w1.alloc (.cells #[.int .i64 op, .int .i64 0, .string { data := #[] }, .string { data := #[] }, .int .i64 0, .int .i64 0, .string { data := #[] }] 23)) := hW2
            have HC1 : Hid (∀ i, i < zs.length → W2.cell? ⟨vb, vo + i, none⟩ = some (.string (txt zs i))) := fun i hi => (hA2.cell (p := ⟨vb, vo + i, none⟩) g3).trans (hc1 i hi)
            have hR2 := hR1.below hA2
            have hB2 := hB1.trans (hA2.mono hB1.size)
            have hs2 := hC2.lt
            clear hW2 hc1 hc0 hW hR1
            go_upto_region 13 with fail
            rw [← HW2.out]
            go_wp2_with fail
            go_loopg [9] ks.length (fun g i wr => ∃ k : Nat, g = ks.length - k ∧ k ≤ ks.length ∧ i = .int .i64 k ∧ CBox wr w1.heap.size (lyN (cmd0 op) ks zs k) ∧ Upd w1.heap.size (w1.heap.size + 1) W2 wr ∧ ∀ j, j < k → 1 ≤ (txt zs (j + 1)).size ∧ lyG ks zs j = true)
            case atStart => exact ⟨0, rfl, Nat.zero_le _, rfl, hC2, Upd.refl _ _ _, fun j hj => by omega⟩
            case round =>
              obtain ⟨k, rfl, hk, rfl, hcb, hu, hg⟩ := hrel
              have husz := hu.size
              have HG : Hid (∀ j, j < k → 1 ≤ (txt zs (j + 1)).size ∧ lyG ks zs j = true) := hg
              have hBr : Below w.heap.size w wr := hB2.trans (hu.below (by omega) hB2.size)
              have hRr := hR2.upd hu (.inl (by omega))
              clear hg
              by_cases hlt : k < ks.length
              · have hkk := HK.out k hlt
                have hlL : k < L.size := by omega
                have hlk := HLA.out k hlL
                have gw : wr.cell? ⟨vb, vo + (k + 1), none⟩ = some (.string (txt zs (k + 1))) := (World.cell?_of_block (a := ⟨vb, vo + (k + 1), none⟩) (hu.block vb (by omega) (.inl (by omega)))).trans (HC1.out (k + 1) (by omega))
                have gw' : wr.cell? ⟨vb, vo + 1 + k, none⟩ = some (.string (txt zs (k + 1))) := by rw [show vo + 1 + k = vo + (k + 1) by omega]; exact gw
                have gw2 : wr.cell? ⟨vb, vo + (1 + k), none⟩ = some (.string (txt zs (k + 1))) := by rw [show vo + (1 + k) = vo + (k + 1) by omega]; exact gw
                have hws := HP.out (k + 1) (by omega)
                obtain ⟨kk, hkv⟩ : ∃ kk : Nat, ks.getD k 0 = (kk : Int) := ⟨(ks.getD k 0).toNat, by omega⟩
                have hk7 : kk ≤ 7 := by omega
                have HLY : Hid (lyN (cmd0 op) ks zs (k + 1) = layC (lyN (cmd0 op) ks zs k) kk (txt zs (k + 1))) := by show lyN _ _ _ (k + 1) = _; rw [lyN, hkv, Int.toNat_natCast]
                have HLG : Hid (lyG ks zs k = layG kk (txt zs (k + 1))) := by show lyG _ _ _ = _; rw [lyG, hkv, Int.toNat_natCast]
                have HBAD : Hid ((txt zs (k + 1)).toList.isEmpty = true ∨ layG kk (txt zs (k + 1)) = false → pS s = (11, cmd0 0)) := fun h => HP1.out.trans (pT_syn HF.out HL.out k hlt (h.imp id fun h => HLG.out.trans h))
                have HGO : Hid (1 ≤ (txt zs (k + 1)).size ∧ layG kk (txt zs (k + 1)) = true → ∀ j, j < k + 1 → 1 ≤ (txt zs (j + 1)).size ∧ lyG ks zs j = true) := fun h j hj => by
                  by_cases e : j = k
                  · subst e; exact ⟨h.1, HLG.out.trans h.2⟩
                  · exact HG.out j (by omega)
                rw [hkv] at hlk
                have hklt : (k : Int) < (L.size : Int) := by omega
                have HCB : Hid (CBox wr w1.heap.size (lyN (cmd0 op) ks zs k)) := hcb
                clear hkk hkv hcb HK HLA HG HLG
                generalize lyN (cmd0 op) ks zs k = C at *
                generalize txt zs (k + 1) = x at *
                have hxs : x.size ≤ 1500 := by omega
                clear hws
                have NUM := l6Number_any x wr hxs
                have hnil := fun (w : World) => hend w
                match kk, hk7 with
                | 0, _ =>
                  have hx : ((L[k]'hlL).toNat : Int) = 84 := by rw [hlk]; rfl
                  by_cases hN : nmOK x = true
                  · have hE := empty_of (s := x) (by have := lay_empty 0 (by decide) (s := x) hN; omega)
                    have HGD : Hid _ := HGO.out ⟨lay_empty 0 (by decide) (s := x) hN, hN⟩
                    rw [hN] at NUM
                    have hfr := HCB.out.free
                    have d0 : wr.cell? ⟨w1.heap.size, 1, none⟩ = some (.int .i64 C.tree) := HCB.out.cell 1
                    have hst0 := (HCB.out).set (c' := { C with tree := nmV x }) 1 (.int .i64 (nmV x)) rfl
                    have HST : Hid _ := And.intro hst0.1 (hu.trans (hst0.2))
                    clear hst0
                    go_wp2_with (go_at_call 9; refine NUM.mono ?_; rintro e w5 ⟨rfl, rfl⟩)
                    go_roundg (ks.length - (k + 1))
                    case measure => omega
                    case rel => exact ⟨k + 1, rfl, by omega, by go_num, by rw [HLY.out]; exact HST.out.1, HST.out.2, HGD.out⟩
                  · have hN' : nmOK x = false := by simpa using hN
                    rw [hN'] at NUM
                    cases hE : x.toList.isEmpty with
                    | true =>
                      have HR : Hid (pS s = (11, cmd0 0)) := HBAD.out (.inr hN')
                      have hfr := HCB.out.free
                      have d0 : wr.cell? ⟨w1.heap.size, 1, none⟩ = some (.int .i64 C.tree) := HCB.out.cell 1
                      have hst0 := (HCB.out).set (c' := { C with tree := nmV x }) 1 (.int .i64 (nmV x)) rfl
                      have hRb : CBox (wr.setCell ⟨w1.heap.size, 1, none⟩ (.int .i64 (nmV x))) w.heap.size (cmd0 0) := hRr.upd (hst0.2) (.inl (by omega))
                      have HB : Hid (Below w.heap.size w (wr.setCell ⟨w1.heap.size, 1, none⟩ (.int .i64 (nmV x)))) := hBr.trans ((hst0.2).below (by omega) hBr.size)
                      go_upto_region 45 with (go_at_call 9; refine NUM.mono ?_; rintro e w5 ⟨rfl, rfl⟩)
                      generalize (wr.setCell ⟨w1.heap.size, 1, none⟩ (.int .i64 (nmV x))) = W9 at *
                      have x0 : W9.cell? ⟨w.heap.size, 0, none⟩ = some (.int .i64 0) := (hRb).cell 0
                      have x1 : W9.cell? ⟨w.heap.size, 1, none⟩ = some (.int .i64 0) := (hRb).cell 1
                      have x2 : W9.cell? ⟨w.heap.size, 2, none⟩ = some (.string { data := #[] }) := (hRb).cell 2
                      have x3 : W9.cell? ⟨w.heap.size, 3, none⟩ = some (.string { data := #[] }) := (hRb).cell 3
                      have x4 : W9.cell? ⟨w.heap.size, 4, none⟩ = some (.int .i64 0) := (hRb).cell 4
                      have x5 : W9.cell? ⟨w.heap.size, 5, none⟩ = some (.int .i64 0) := (hRb).cell 5
                      have x6 : W9.cell? ⟨w.heap.size, 6, none⟩ = some (.string { data := #[] }) := (hRb).cell 6
                      have q1 := (hRb).free
                      go_wp2_with fail
                      exact bodyPost_ret (v := .tuple #[.agg #[.int .i64 0, .int .i64 0, .string { data := #[] }, .string { data := #[] }, .int .i64 0, .int .i64 0, .string { data := #[] }], .int .i64 11]) (by simp [results, Tryz.results4, go_sem, x0, x1, x2, x3, x4, x5, x6]) rfl ⟨by rw [HR.out]; rfl, hend _ HB.out _ _ _ _ _ _ _⟩
                    | false =>
                      have HR : Hid (pS s = (11, cmd0 0)) := HBAD.out (.inr hN')
                      have hfr := HCB.out.free
                      have d0 : wr.cell? ⟨w1.heap.size, 1, none⟩ = some (.int .i64 C.tree) := HCB.out.cell 1
                      have hst0 := (HCB.out).set (c' := { C with tree := nmV x }) 1 (.int .i64 (nmV x)) rfl
                      have hRb : CBox (wr.setCell ⟨w1.heap.size, 1, none⟩ (.int .i64 (nmV x))) w.heap.size (cmd0 0) := hRr.upd (hst0.2) (.inl (by omega))
                      have HB : Hid (Below w.heap.size w (wr.setCell ⟨w1.heap.size, 1, none⟩ (.int .i64 (nmV x)))) := hBr.trans ((hst0.2).below (by omega) hBr.size)
                      go_upto_region 45 with (go_at_call 9; refine NUM.mono ?_; rintro e w5 ⟨rfl, rfl⟩)
                      generalize (wr.setCell ⟨w1.heap.size, 1, none⟩ (.int .i64 (nmV x))) = W9 at *
                      have x0 : W9.cell? ⟨w.heap.size, 0, none⟩ = some (.int .i64 0) := (hRb).cell 0
                      have x1 : W9.cell? ⟨w.heap.size, 1, none⟩ = some (.int .i64 0) := (hRb).cell 1
                      have x2 : W9.cell? ⟨w.heap.size, 2, none⟩ = some (.string { data := #[] }) := (hRb).cell 2
                      have x3 : W9.cell? ⟨w.heap.size, 3, none⟩ = some (.string { data := #[] }) := (hRb).cell 3
                      have x4 : W9.cell? ⟨w.heap.size, 4, none⟩ = some (.int .i64 0) := (hRb).cell 4
                      have x5 : W9.cell? ⟨w.heap.size, 5, none⟩ = some (.int .i64 0) := (hRb).cell 5
                      have x6 : W9.cell? ⟨w.heap.size, 6, none⟩ = some (.string { data := #[] }) := (hRb).cell 6
                      have q1 := (hRb).free
                      go_wp2_with fail
                      exact bodyPost_ret (v := .tuple #[.agg #[.int .i64 0, .int .i64 0, .string { data := #[] }, .string { data := #[] }, .int .i64 0, .int .i64 0, .string { data := #[] }], .int .i64 11]) (by simp [results, Tryz.results4, go_sem, x0, x1, x2, x3, x4, x5, x6]) rfl ⟨by rw [HR.out]; rfl, hend _ HB.out _ _ _ _ _ _ _⟩
                | 1, _ =>
                  have hx : ((L[k]'hlL).toNat : Int) = 80 := by rw [hlk]; rfl
                  cases hE : x.toList.isEmpty with
                  | false =>
                    have HGD : Hid _ := HGO.out ⟨full_size hE, rfl⟩
                    have hfr := HCB.out.free
                    have d0 : wr.cell? ⟨w1.heap.size, 2, none⟩ = some (.string C.path) := HCB.out.cell 2
                    have hst0 := (HCB.out).set (c' := { C with path := x }) 2 (.string x) rfl
                    have HST : Hid _ := And.intro hst0.1 (hu.trans (hst0.2))
                    clear hst0
                    go_wp2_with (go_at_call 9; refine NUM.mono ?_; rintro e w5 ⟨rfl, rfl⟩)
                    go_roundg (ks.length - (k + 1))
                    case measure => omega
                    case rel => exact ⟨k + 1, rfl, by omega, by go_num, by rw [HLY.out]; exact HST.out.1, HST.out.2, HGD.out⟩
                  | true =>
                    have HR : Hid (pS s = (11, cmd0 0)) := HBAD.out (.inl hE)
                    have hfr := HCB.out.free
                    have d0 : wr.cell? ⟨w1.heap.size, 2, none⟩ = some (.string C.path) := HCB.out.cell 2
                    have hst0 := (HCB.out).set (c' := { C with path := x }) 2 (.string x) rfl
                    have hRb : CBox (wr.setCell ⟨w1.heap.size, 2, none⟩ (.string x)) w.heap.size (cmd0 0) := hRr.upd (hst0.2) (.inl (by omega))
                    have HB : Hid (Below w.heap.size w (wr.setCell ⟨w1.heap.size, 2, none⟩ (.string x))) := hBr.trans ((hst0.2).below (by omega) hBr.size)
                    go_upto_region 45 with (go_at_call 9; refine NUM.mono ?_; rintro e w5 ⟨rfl, rfl⟩)
                    generalize (wr.setCell ⟨w1.heap.size, 2, none⟩ (.string x)) = W9 at *
                    have x0 : W9.cell? ⟨w.heap.size, 0, none⟩ = some (.int .i64 0) := (hRb).cell 0
                    have x1 : W9.cell? ⟨w.heap.size, 1, none⟩ = some (.int .i64 0) := (hRb).cell 1
                    have x2 : W9.cell? ⟨w.heap.size, 2, none⟩ = some (.string { data := #[] }) := (hRb).cell 2
                    have x3 : W9.cell? ⟨w.heap.size, 3, none⟩ = some (.string { data := #[] }) := (hRb).cell 3
                    have x4 : W9.cell? ⟨w.heap.size, 4, none⟩ = some (.int .i64 0) := (hRb).cell 4
                    have x5 : W9.cell? ⟨w.heap.size, 5, none⟩ = some (.int .i64 0) := (hRb).cell 5
                    have x6 : W9.cell? ⟨w.heap.size, 6, none⟩ = some (.string { data := #[] }) := (hRb).cell 6
                    have q1 := (hRb).free
                    go_wp2_with fail
                    exact bodyPost_ret (v := .tuple #[.agg #[.int .i64 0, .int .i64 0, .string { data := #[] }, .string { data := #[] }, .int .i64 0, .int .i64 0, .string { data := #[] }], .int .i64 11]) (by simp [results, Tryz.results4, go_sem, x0, x1, x2, x3, x4, x5, x6]) rfl ⟨by rw [HR.out]; rfl, hend _ HB.out _ _ _ _ _ _ _⟩
                | 2, _ =>
                  have hx : ((L[k]'hlL).toNat : Int) = 81 := by rw [hlk]; rfl
                  cases hE : x.toList.isEmpty with
                  | false =>
                    have HGD : Hid _ := HGO.out ⟨full_size hE, rfl⟩
                    have hfr := HCB.out.free
                    have d0 : wr.cell? ⟨w1.heap.size, 3, none⟩ = some (.string C.path2) := HCB.out.cell 3
                    have hst0 := (HCB.out).set (c' := { C with path2 := x }) 3 (.string x) rfl
                    have HST : Hid _ := And.intro hst0.1 (hu.trans (hst0.2))
                    clear hst0
                    go_wp2_with (go_at_call 9; refine NUM.mono ?_; rintro e w5 ⟨rfl, rfl⟩)
                    go_roundg (ks.length - (k + 1))
                    case measure => omega
                    case rel => exact ⟨k + 1, rfl, by omega, by go_num, by rw [HLY.out]; exact HST.out.1, HST.out.2, HGD.out⟩
                  | true =>
                    have HR : Hid (pS s = (11, cmd0 0)) := HBAD.out (.inl hE)
                    have hfr := HCB.out.free
                    have d0 : wr.cell? ⟨w1.heap.size, 3, none⟩ = some (.string C.path2) := HCB.out.cell 3
                    have hst0 := (HCB.out).set (c' := { C with path2 := x }) 3 (.string x) rfl
                    have hRb : CBox (wr.setCell ⟨w1.heap.size, 3, none⟩ (.string x)) w.heap.size (cmd0 0) := hRr.upd (hst0.2) (.inl (by omega))
                    have HB : Hid (Below w.heap.size w (wr.setCell ⟨w1.heap.size, 3, none⟩ (.string x))) := hBr.trans ((hst0.2).below (by omega) hBr.size)
                    go_upto_region 45 with (go_at_call 9; refine NUM.mono ?_; rintro e w5 ⟨rfl, rfl⟩)
                    generalize (wr.setCell ⟨w1.heap.size, 3, none⟩ (.string x)) = W9 at *
                    have x0 : W9.cell? ⟨w.heap.size, 0, none⟩ = some (.int .i64 0) := (hRb).cell 0
                    have x1 : W9.cell? ⟨w.heap.size, 1, none⟩ = some (.int .i64 0) := (hRb).cell 1
                    have x2 : W9.cell? ⟨w.heap.size, 2, none⟩ = some (.string { data := #[] }) := (hRb).cell 2
                    have x3 : W9.cell? ⟨w.heap.size, 3, none⟩ = some (.string { data := #[] }) := (hRb).cell 3
                    have x4 : W9.cell? ⟨w.heap.size, 4, none⟩ = some (.int .i64 0) := (hRb).cell 4
                    have x5 : W9.cell? ⟨w.heap.size, 5, none⟩ = some (.int .i64 0) := (hRb).cell 5
                    have x6 : W9.cell? ⟨w.heap.size, 6, none⟩ = some (.string { data := #[] }) := (hRb).cell 6
                    have q1 := (hRb).free
                    go_wp2_with fail
                    exact bodyPost_ret (v := .tuple #[.agg #[.int .i64 0, .int .i64 0, .string { data := #[] }, .string { data := #[] }, .int .i64 0, .int .i64 0, .string { data := #[] }], .int .i64 11]) (by simp [results, Tryz.results4, go_sem, x0, x1, x2, x3, x4, x5, x6]) rfl ⟨by rw [HR.out]; rfl, hend _ HB.out _ _ _ _ _ _ _⟩
                | 3, _ =>
                  have hx : ((L[k]'hlL).toNat : Int) = 79 := by rw [hlk]; rfl
                  by_cases hN : nmOK x = true
                  · have hE := empty_of (s := x) (by have := lay_empty 3 (by decide) (s := x) hN; omega)
                    have HGD : Hid _ := HGO.out ⟨lay_empty 3 (by decide) (s := x) hN, hN⟩
                    rw [hN] at NUM
                    have hfr := HCB.out.free
                    have d0 : wr.cell? ⟨w1.heap.size, 4, none⟩ = some (.int .i64 C.off) := HCB.out.cell 4
                    have hst0 := (HCB.out).set (c' := { C with off := nmV x }) 4 (.int .i64 (nmV x)) rfl
                    have HST : Hid _ := And.intro hst0.1 (hu.trans (hst0.2))
                    clear hst0
                    go_wp2_with (go_at_call 9; refine NUM.mono ?_; rintro e w5 ⟨rfl, rfl⟩)
                    go_roundg (ks.length - (k + 1))
                    case measure => omega
                    case rel => exact ⟨k + 1, rfl, by omega, by go_num, by rw [HLY.out]; exact HST.out.1, HST.out.2, HGD.out⟩
                  · have hN' : nmOK x = false := by simpa using hN
                    rw [hN'] at NUM
                    cases hE : x.toList.isEmpty with
                    | true =>
                      have HR : Hid (pS s = (11, cmd0 0)) := HBAD.out (.inr hN')
                      have hfr := HCB.out.free
                      have d0 : wr.cell? ⟨w1.heap.size, 4, none⟩ = some (.int .i64 C.off) := HCB.out.cell 4
                      have hst0 := (HCB.out).set (c' := { C with off := nmV x }) 4 (.int .i64 (nmV x)) rfl
                      have hRb : CBox (wr.setCell ⟨w1.heap.size, 4, none⟩ (.int .i64 (nmV x))) w.heap.size (cmd0 0) := hRr.upd (hst0.2) (.inl (by omega))
                      have HB : Hid (Below w.heap.size w (wr.setCell ⟨w1.heap.size, 4, none⟩ (.int .i64 (nmV x)))) := hBr.trans ((hst0.2).below (by omega) hBr.size)
                      go_upto_region 45 with (go_at_call 9; refine NUM.mono ?_; rintro e w5 ⟨rfl, rfl⟩)
                      generalize (wr.setCell ⟨w1.heap.size, 4, none⟩ (.int .i64 (nmV x))) = W9 at *
                      have x0 : W9.cell? ⟨w.heap.size, 0, none⟩ = some (.int .i64 0) := (hRb).cell 0
                      have x1 : W9.cell? ⟨w.heap.size, 1, none⟩ = some (.int .i64 0) := (hRb).cell 1
                      have x2 : W9.cell? ⟨w.heap.size, 2, none⟩ = some (.string { data := #[] }) := (hRb).cell 2
                      have x3 : W9.cell? ⟨w.heap.size, 3, none⟩ = some (.string { data := #[] }) := (hRb).cell 3
                      have x4 : W9.cell? ⟨w.heap.size, 4, none⟩ = some (.int .i64 0) := (hRb).cell 4
                      have x5 : W9.cell? ⟨w.heap.size, 5, none⟩ = some (.int .i64 0) := (hRb).cell 5
                      have x6 : W9.cell? ⟨w.heap.size, 6, none⟩ = some (.string { data := #[] }) := (hRb).cell 6
                      have q1 := (hRb).free
                      go_wp2_with fail
                      exact bodyPost_ret (v := .tuple #[.agg #[.int .i64 0, .int .i64 0, .string { data := #[] }, .string { data := #[] }, .int .i64 0, .int .i64 0, .string { data := #[] }], .int .i64 11]) (by simp [results, Tryz.results4, go_sem, x0, x1, x2, x3, x4, x5, x6]) rfl ⟨by rw [HR.out]; rfl, hend _ HB.out _ _ _ _ _ _ _⟩
                    | false =>
                      have HR : Hid (pS s = (11, cmd0 0)) := HBAD.out (.inr hN')
                      have hfr := HCB.out.free
                      have d0 : wr.cell? ⟨w1.heap.size, 4, none⟩ = some (.int .i64 C.off) := HCB.out.cell 4
                      have hst0 := (HCB.out).set (c' := { C with off := nmV x }) 4 (.int .i64 (nmV x)) rfl
                      have hRb : CBox (wr.setCell ⟨w1.heap.size, 4, none⟩ (.int .i64 (nmV x))) w.heap.size (cmd0 0) := hRr.upd (hst0.2) (.inl (by omega))
                      have HB : Hid (Below w.heap.size w (wr.setCell ⟨w1.heap.size, 4, none⟩ (.int .i64 (nmV x)))) := hBr.trans ((hst0.2).below (by omega) hBr.size)
                      go_upto_region 45 with (go_at_call 9; refine NUM.mono ?_; rintro e w5 ⟨rfl, rfl⟩)
                      generalize (wr.setCell ⟨w1.heap.size, 4, none⟩ (.int .i64 (nmV x))) = W9 at *
                      have x0 : W9.cell? ⟨w.heap.size, 0, none⟩ = some (.int .i64 0) := (hRb).cell 0
                      have x1 : W9.cell? ⟨w.heap.size, 1, none⟩ = some (.int .i64 0) := (hRb).cell 1
                      have x2 : W9.cell? ⟨w.heap.size, 2, none⟩ = some (.string { data := #[] }) := (hRb).cell 2
                      have x3 : W9.cell? ⟨w.heap.size, 3, none⟩ = some (.string { data := #[] }) := (hRb).cell 3
                      have x4 : W9.cell? ⟨w.heap.size, 4, none⟩ = some (.int .i64 0) := (hRb).cell 4
                      have x5 : W9.cell? ⟨w.heap.size, 5, none⟩ = some (.int .i64 0) := (hRb).cell 5
                      have x6 : W9.cell? ⟨w.heap.size, 6, none⟩ = some (.string { data := #[] }) := (hRb).cell 6
                      have q1 := (hRb).free
                      go_wp2_with fail
                      exact bodyPost_ret (v := .tuple #[.agg #[.int .i64 0, .int .i64 0, .string { data := #[] }, .string { data := #[] }, .int .i64 0, .int .i64 0, .string { data := #[] }], .int .i64 11]) (by simp [results, Tryz.results4, go_sem, x0, x1, x2, x3, x4, x5, x6]) rfl ⟨by rw [HR.out]; rfl, hend _ HB.out _ _ _ _ _ _ _⟩
                | 4, _ =>
                  have hx : ((L[k]'hlL).toNat : Int) = 76 := by rw [hlk]; rfl
                  by_cases hN : nmOK x = true
                  · have hE := empty_of (s := x) (by have := lay_empty 4 (by decide) (s := x) hN; omega)
                    have HGD : Hid _ := HGO.out ⟨lay_empty 4 (by decide) (s := x) hN, hN⟩
                    rw [hN] at NUM
                    have hfr := HCB.out.free
                    have d0 : wr.cell? ⟨w1.heap.size, 5, none⟩ = some (.int .i64 C.len) := HCB.out.cell 5
                    have hst0 := (HCB.out).set (c' := { C with len := nmV x }) 5 (.int .i64 (nmV x)) rfl
                    have HST : Hid _ := And.intro hst0.1 (hu.trans (hst0.2))
                    clear hst0
                    go_wp2_with (go_at_call 9; refine NUM.mono ?_; rintro e w5 ⟨rfl, rfl⟩)
                    go_roundg (ks.length - (k + 1))
                    case measure => omega
                    case rel => exact ⟨k + 1, rfl, by omega, by go_num, by rw [HLY.out]; exact HST.out.1, HST.out.2, HGD.out⟩
                  · have hN' : nmOK x = false := by simpa using hN
                    rw [hN'] at NUM
                    cases hE : x.toList.isEmpty with
                    | true =>
                      have HR : Hid (pS s = (11, cmd0 0)) := HBAD.out (.inr hN')
                      have hfr := HCB.out.free
                      have d0 : wr.cell? ⟨w1.heap.size, 5, none⟩ = some (.int .i64 C.len) := HCB.out.cell 5
                      have hst0 := (HCB.out).set (c' := { C with len := nmV x }) 5 (.int .i64 (nmV x)) rfl
                      have hRb : CBox (wr.setCell ⟨w1.heap.size, 5, none⟩ (.int .i64 (nmV x))) w.heap.size (cmd0 0) := hRr.upd (hst0.2) (.inl (by omega))
                      have HB : Hid (Below w.heap.size w (wr.setCell ⟨w1.heap.size, 5, none⟩ (.int .i64 (nmV x)))) := hBr.trans ((hst0.2).below (by omega) hBr.size)
                      go_upto_region 45 with (go_at_call 9; refine NUM.mono ?_; rintro e w5 ⟨rfl, rfl⟩)
                      generalize (wr.setCell ⟨w1.heap.size, 5, none⟩ (.int .i64 (nmV x))) = W9 at *
                      have x0 : W9.cell? ⟨w.heap.size, 0, none⟩ = some (.int .i64 0) := (hRb).cell 0
                      have x1 : W9.cell? ⟨w.heap.size, 1, none⟩ = some (.int .i64 0) := (hRb).cell 1
                      have x2 : W9.cell? ⟨w.heap.size, 2, none⟩ = some (.string { data := #[] }) := (hRb).cell 2
                      have x3 : W9.cell? ⟨w.heap.size, 3, none⟩ = some (.string { data := #[] }) := (hRb).cell 3
                      have x4 : W9.cell? ⟨w.heap.size, 4, none⟩ = some (.int .i64 0) := (hRb).cell 4
                      have x5 : W9.cell? ⟨w.heap.size, 5, none⟩ = some (.int .i64 0) := (hRb).cell 5
                      have x6 : W9.cell? ⟨w.heap.size, 6, none⟩ = some (.string { data := #[] }) := (hRb).cell 6
                      have q1 := (hRb).free
                      go_wp2_with fail
                      exact bodyPost_ret (v := .tuple #[.agg #[.int .i64 0, .int .i64 0, .string { data := #[] }, .string { data := #[] }, .int .i64 0, .int .i64 0, .string { data := #[] }], .int .i64 11]) (by simp [results, Tryz.results4, go_sem, x0, x1, x2, x3, x4, x5, x6]) rfl ⟨by rw [HR.out]; rfl, hend _ HB.out _ _ _ _ _ _ _⟩
                    | false =>
                      have HR : Hid (pS s = (11, cmd0 0)) := HBAD.out (.inr hN')
                      have hfr := HCB.out.free
                      have d0 : wr.cell? ⟨w1.heap.size, 5, none⟩ = some (.int .i64 C.len) := HCB.out.cell 5
                      have hst0 := (HCB.out).set (c' := { C with len := nmV x }) 5 (.int .i64 (nmV x)) rfl
                      have hRb : CBox (wr.setCell ⟨w1.heap.size, 5, none⟩ (.int .i64 (nmV x))) w.heap.size (cmd0 0) := hRr.upd (hst0.2) (.inl (by omega))
                      have HB : Hid (Below w.heap.size w (wr.setCell ⟨w1.heap.size, 5, none⟩ (.int .i64 (nmV x)))) := hBr.trans ((hst0.2).below (by omega) hBr.size)
                      go_upto_region 45 with (go_at_call 9; refine NUM.mono ?_; rintro e w5 ⟨rfl, rfl⟩)
                      generalize (wr.setCell ⟨w1.heap.size, 5, none⟩ (.int .i64 (nmV x))) = W9 at *
                      have x0 : W9.cell? ⟨w.heap.size, 0, none⟩ = some (.int .i64 0) := (hRb).cell 0
                      have x1 : W9.cell? ⟨w.heap.size, 1, none⟩ = some (.int .i64 0) := (hRb).cell 1
                      have x2 : W9.cell? ⟨w.heap.size, 2, none⟩ = some (.string { data := #[] }) := (hRb).cell 2
                      have x3 : W9.cell? ⟨w.heap.size, 3, none⟩ = some (.string { data := #[] }) := (hRb).cell 3
                      have x4 : W9.cell? ⟨w.heap.size, 4, none⟩ = some (.int .i64 0) := (hRb).cell 4
                      have x5 : W9.cell? ⟨w.heap.size, 5, none⟩ = some (.int .i64 0) := (hRb).cell 5
                      have x6 : W9.cell? ⟨w.heap.size, 6, none⟩ = some (.string { data := #[] }) := (hRb).cell 6
                      have q1 := (hRb).free
                      go_wp2_with fail
                      exact bodyPost_ret (v := .tuple #[.agg #[.int .i64 0, .int .i64 0, .string { data := #[] }, .string { data := #[] }, .int .i64 0, .int .i64 0, .string { data := #[] }], .int .i64 11]) (by simp [results, Tryz.results4, go_sem, x0, x1, x2, x3, x4, x5, x6]) rfl ⟨by rw [HR.out]; rfl, hend _ HB.out _ _ _ _ _ _ _⟩
                | 5, _ =>
                  have hx : ((L[k]'hlL).toNat : Int) = 67 := by rw [hlk]; rfl
                  by_cases h1 : x.size = 1
                  · have hE := empty_of (s := x) (by omega)
                    have HGD : Hid _ := HGO.out ⟨by omega, by show ((x.size : Int) == 1) = true; simp [h1]⟩
                    have hn1 : ((x.size : Int) != 1) = false := by simp [h1]
                    clear h1
                    have hfr := HCB.out.free
                    have d0 : wr.cell? ⟨w1.heap.size, 6, none⟩ = some (.string C.data) := HCB.out.cell 6
                    have hst0 := (HCB.out).set (c' := { C with data := x }) 6 (.string x) rfl
                    have HST : Hid _ := And.intro hst0.1 (hu.trans (hst0.2))
                    clear hst0
                    go_wp2_with (go_at_call 9; refine NUM.mono ?_; rintro e w5 ⟨rfl, rfl⟩)
                    go_roundg (ks.length - (k + 1))
                    case measure => omega
                    case rel => exact ⟨k + 1, rfl, by omega, by go_num, by rw [HLY.out]; exact HST.out.1, HST.out.2, HGD.out⟩
                  · have hb5 : layG 5 x = false := by show ((x.size : Int) == 1) = false; simp; omega
                    have hn1 : ((x.size : Int) != 1) = true := by simp; omega
                    clear h1
                    cases hE : x.toList.isEmpty with
                    | true =>
                      have HR : Hid (pS s = (11, cmd0 0)) := HBAD.out (.inr hb5)
                      have hfr := HCB.out.free
                      have d0 : wr.cell? ⟨w1.heap.size, 6, none⟩ = some (.string C.data) := HCB.out.cell 6
                      have hst0 := (HCB.out).set (c' := { C with data := x }) 6 (.string x) rfl
                      have hRb : CBox (wr.setCell ⟨w1.heap.size, 6, none⟩ (.string x)) w.heap.size (cmd0 0) := hRr.upd (hst0.2) (.inl (by omega))
                      have HB : Hid (Below w.heap.size w (wr.setCell ⟨w1.heap.size, 6, none⟩ (.string x))) := hBr.trans ((hst0.2).below (by omega) hBr.size)
                      go_upto_region 45 with (go_at_call 9; refine NUM.mono ?_; rintro e w5 ⟨rfl, rfl⟩)
                      generalize (wr.setCell ⟨w1.heap.size, 6, none⟩ (.string x)) = W9 at *
                      have x0 : W9.cell? ⟨w.heap.size, 0, none⟩ = some (.int .i64 0) := (hRb).cell 0
                      have x1 : W9.cell? ⟨w.heap.size, 1, none⟩ = some (.int .i64 0) := (hRb).cell 1
                      have x2 : W9.cell? ⟨w.heap.size, 2, none⟩ = some (.string { data := #[] }) := (hRb).cell 2
                      have x3 : W9.cell? ⟨w.heap.size, 3, none⟩ = some (.string { data := #[] }) := (hRb).cell 3
                      have x4 : W9.cell? ⟨w.heap.size, 4, none⟩ = some (.int .i64 0) := (hRb).cell 4
                      have x5 : W9.cell? ⟨w.heap.size, 5, none⟩ = some (.int .i64 0) := (hRb).cell 5
                      have x6 : W9.cell? ⟨w.heap.size, 6, none⟩ = some (.string { data := #[] }) := (hRb).cell 6
                      have q1 := (hRb).free
                      go_wp2_with fail
                      exact bodyPost_ret (v := .tuple #[.agg #[.int .i64 0, .int .i64 0, .string { data := #[] }, .string { data := #[] }, .int .i64 0, .int .i64 0, .string { data := #[] }], .int .i64 11]) (by simp [results, Tryz.results4, go_sem, x0, x1, x2, x3, x4, x5, x6]) rfl ⟨by rw [HR.out]; rfl, hend _ HB.out _ _ _ _ _ _ _⟩
                    | false =>
                      have HR : Hid (pS s = (11, cmd0 0)) := HBAD.out (.inr hb5)
                      have hfr := HCB.out.free
                      have d0 : wr.cell? ⟨w1.heap.size, 6, none⟩ = some (.string C.data) := HCB.out.cell 6
                      have hst0 := (HCB.out).set (c' := { C with data := x }) 6 (.string x) rfl
                      have hRb : CBox (wr.setCell ⟨w1.heap.size, 6, none⟩ (.string x)) w.heap.size (cmd0 0) := hRr.upd (hst0.2) (.inl (by omega))
                      have HB : Hid (Below w.heap.size w (wr.setCell ⟨w1.heap.size, 6, none⟩ (.string x))) := hBr.trans ((hst0.2).below (by omega) hBr.size)
                      go_upto_region 45 with (go_at_call 9; refine NUM.mono ?_; rintro e w5 ⟨rfl, rfl⟩)
                      generalize (wr.setCell ⟨w1.heap.size, 6, none⟩ (.string x)) = W9 at *
                      have x0 : W9.cell? ⟨w.heap.size, 0, none⟩ = some (.int .i64 0) := (hRb).cell 0
                      have x1 : W9.cell? ⟨w.heap.size, 1, none⟩ = some (.int .i64 0) := (hRb).cell 1
                      have x2 : W9.cell? ⟨w.heap.size, 2, none⟩ = some (.string { data := #[] }) := (hRb).cell 2
                      have x3 : W9.cell? ⟨w.heap.size, 3, none⟩ = some (.string { data := #[] }) := (hRb).cell 3
                      have x4 : W9.cell? ⟨w.heap.size, 4, none⟩ = some (.int .i64 0) := (hRb).cell 4
                      have x5 : W9.cell? ⟨w.heap.size, 5, none⟩ = some (.int .i64 0) := (hRb).cell 5
                      have x6 : W9.cell? ⟨w.heap.size, 6, none⟩ = some (.string { data := #[] }) := (hRb).cell 6
                      have q1 := (hRb).free
                      go_wp2_with fail
                      exact bodyPost_ret (v := .tuple #[.agg #[.int .i64 0, .int .i64 0, .string { data := #[] }, .string { data := #[] }, .int .i64 0, .int .i64 0, .string { data := #[] }], .int .i64 11]) (by simp [results, Tryz.results4, go_sem, x0, x1, x2, x3, x4, x5, x6]) rfl ⟨by rw [HR.out]; rfl, hend _ HB.out _ _ _ _ _ _ _⟩
                | 6, _ =>
                  have hx : ((L[k]'hlL).toNat : Int) = 68 := by rw [hlk]; rfl
                  cases hE : x.toList.isEmpty with
                  | false =>
                    have HGD : Hid _ := HGO.out ⟨full_size hE, rfl⟩
                    have hfr := HCB.out.free
                    have d0 : wr.cell? ⟨w1.heap.size, 6, none⟩ = some (.string C.data) := HCB.out.cell 6
                    have hst0 := (HCB.out).set (c' := { C with data := x }) 6 (.string x) rfl
                    have d1 : wr.cell? ⟨w1.heap.size, 5, none⟩ = some (.int .i64 C.len) := HCB.out.cell 5
                    have hst1 := (hst0.1).set (c' := { C with data := x, len := x.size }) 5 (.int .i64 x.size) rfl
                    have HST : Hid _ := And.intro hst1.1 (hu.trans ((hst0.2).trans hst1.2))
                    clear hst0 hst1
                    go_wp2_with (go_at_call 9; refine NUM.mono ?_; rintro e w5 ⟨rfl, rfl⟩)
                    go_roundg (ks.length - (k + 1))
                    case measure => omega
                    case rel => exact ⟨k + 1, rfl, by omega, by go_num, by rw [HLY.out]; exact HST.out.1, HST.out.2, HGD.out⟩
                  | true =>
                    have HR : Hid (pS s = (11, cmd0 0)) := HBAD.out (.inl hE)
                    have hfr := HCB.out.free
                    have d0 : wr.cell? ⟨w1.heap.size, 6, none⟩ = some (.string C.data) := HCB.out.cell 6
                    have hst0 := (HCB.out).set (c' := { C with data := x }) 6 (.string x) rfl
                    have d1 : wr.cell? ⟨w1.heap.size, 5, none⟩ = some (.int .i64 C.len) := HCB.out.cell 5
                    have hst1 := (hst0.1).set (c' := { C with data := x, len := x.size }) 5 (.int .i64 x.size) rfl
                    have hRb : CBox ((wr.setCell ⟨w1.heap.size, 6, none⟩ (.string x)).setCell ⟨w1.heap.size, 5, none⟩ (.int .i64 x.size)) w.heap.size (cmd0 0) := hRr.upd ((hst0.2).trans hst1.2) (.inl (by omega))
                    have HB : Hid (Below w.heap.size w ((wr.setCell ⟨w1.heap.size, 6, none⟩ (.string x)).setCell ⟨w1.heap.size, 5, none⟩ (.int .i64 x.size))) := hBr.trans (((hst0.2).trans hst1.2).below (by omega) hBr.size)
                    go_upto_region 45 with (go_at_call 9; refine NUM.mono ?_; rintro e w5 ⟨rfl, rfl⟩)
                    generalize ((wr.setCell ⟨w1.heap.size, 6, none⟩ (.string x)).setCell ⟨w1.heap.size, 5, none⟩ (.int .i64 x.size)) = W9 at *
                    have x0 : W9.cell? ⟨w.heap.size, 0, none⟩ = some (.int .i64 0) := (hRb).cell 0
                    have x1 : W9.cell? ⟨w.heap.size, 1, none⟩ = some (.int .i64 0) := (hRb).cell 1
                    have x2 : W9.cell? ⟨w.heap.size, 2, none⟩ = some (.string { data := #[] }) := (hRb).cell 2
                    have x3 : W9.cell? ⟨w.heap.size, 3, none⟩ = some (.string { data := #[] }) := (hRb).cell 3
                    have x4 : W9.cell? ⟨w.heap.size, 4, none⟩ = some (.int .i64 0) := (hRb).cell 4
                    have x5 : W9.cell? ⟨w.heap.size, 5, none⟩ = some (.int .i64 0) := (hRb).cell 5
                    have x6 : W9.cell? ⟨w.heap.size, 6, none⟩ = some (.string { data := #[] }) := (hRb).cell 6
                    have q1 := (hRb).free
                    go_wp2_with fail
                    exact bodyPost_ret (v := .tuple #[.agg #[.int .i64 0, .int .i64 0, .string { data := #[] }, .string { data := #[] }, .int .i64 0, .int .i64 0, .string { data := #[] }], .int .i64 11]) (by simp [results, Tryz.results4, go_sem, x0, x1, x2, x3, x4, x5, x6]) rfl ⟨by rw [HR.out]; rfl, hend _ HB.out _ _ _ _ _ _ _⟩
                | 7, _ =>
                  have hx : ((L[k]'hlL).toNat : Int) = 77 := by rw [hlk]; rfl
                  by_cases hm : (x.toList == [45]) = true
                  · have hG : layG 7 x = true := by simp only [layG, hm, Bool.true_or]
                    have hC : layC C 7 x = C := by simp only [layC, hm, if_true]
                    have hE := empty_of (s := x) (by have := lay_empty 7 (by decide) (s := x) hG; omega)
                    have HGD : Hid _ := HGO.out ⟨lay_empty 7 (by decide) (s := x) hG, hG⟩
                    have HST : Hid _ := And.intro HCB.out hu
                    clear hG
                    have HC7 : Hid (layC C 7 x = C) := hC
                    clear hC
                    go_wp2_with (go_at_call 9; refine NUM.mono ?_; rintro e w5 ⟨rfl, rfl⟩)
                    go_roundg (ks.length - (k + 1))
                    case measure => omega
                    case rel => exact ⟨k + 1, rfl, by omega, by go_num, by rw [HLY.out, HC7.out]; exact HST.out.1, HST.out.2, HGD.out⟩
                  · have hm' : (x.toList == [45]) = false := by simpa using hm
                    have HC7 : Hid (layC C 7 x = { C with data := x, len := x.size }) := by show layC C 7 x = _; simp only [layC, hm']; rfl
                    have HG7 : Hid (layG 7 x = mkOK x) := by show layG 7 x = _; simp only [layG, hm', Bool.false_or]
                    have MSK := l6MaskOK_any x wr hxs
                    by_cases hN : mkOK x = true
                    · have hE := empty_of (s := x) (by have := lay_empty 7 (by decide) (s := x) (HG7.out.trans hN); omega)
                      have HGD : Hid _ := HGO.out ⟨lay_empty 7 (by decide) (s := x) (HG7.out.trans hN), HG7.out.trans hN⟩
                      rw [hN] at MSK
                      have hfr := HCB.out.free
                      have d0 : wr.cell? ⟨w1.heap.size, 6, none⟩ = some (.string C.data) := HCB.out.cell 6
                      have hst0 := (HCB.out).set (c' := { C with data := x }) 6 (.string x) rfl
                      have d1 : wr.cell? ⟨w1.heap.size, 5, none⟩ = some (.int .i64 C.len) := HCB.out.cell 5
                      have hst1 := (hst0.1).set (c' := { C with data := x, len := x.size }) 5 (.int .i64 x.size) rfl
                      have HST : Hid _ := And.intro hst1.1 (hu.trans ((hst0.2).trans hst1.2))
                      clear hst0 hst1
                      go_wp2_with (first | (go_at_call 9; refine NUM.mono ?_; rintro e w5 ⟨rfl, rfl⟩) | (go_at_call 10; refine MSK.mono ?_; rintro e w6 ⟨rfl, rfl⟩))
                      go_roundg (ks.length - (k + 1))
                      case measure => omega
                      case rel => exact ⟨k + 1, rfl, by omega, by go_num, by rw [HLY.out, HC7.out]; exact HST.out.1, HST.out.2, HGD.out⟩
                    · have hN' : mkOK x = false := by simpa using hN
                      rw [hN'] at MSK
                      cases hE : x.toList.isEmpty with
                      | true =>
                        have HR : Hid (pS s = (11, cmd0 0)) := HBAD.out (.inr (HG7.out.trans hN'))
                        have hfr := HCB.out.free
                        have d0 : wr.cell? ⟨w1.heap.size, 6, none⟩ = some (.string C.data) := HCB.out.cell 6
                        have hst0 := (HCB.out).set (c' := { C with data := x }) 6 (.string x) rfl
                        have d1 : wr.cell? ⟨w1.heap.size, 5, none⟩ = some (.int .i64 C.len) := HCB.out.cell 5
                        have hst1 := (hst0.1).set (c' := { C with data := x, len := x.size }) 5 (.int .i64 x.size) rfl
                        have hRb : CBox ((wr.setCell ⟨w1.heap.size, 6, none⟩ (.string x)).setCell ⟨w1.heap.size, 5, none⟩ (.int .i64 x.size)) w.heap.size (cmd0 0) := hRr.upd ((hst0.2).trans hst1.2) (.inl (by omega))
                        have HB : Hid (Below w.heap.size w ((wr.setCell ⟨w1.heap.size, 6, none⟩ (.string x)).setCell ⟨w1.heap.size, 5, none⟩ (.int .i64 x.size))) := hBr.trans (((hst0.2).trans hst1.2).below (by omega) hBr.size)
                        go_upto_region 45 with (first | (go_at_call 9; refine NUM.mono ?_; rintro e w5 ⟨rfl, rfl⟩) | (go_at_call 10; refine MSK.mono ?_; rintro e w6 ⟨rfl, rfl⟩))
                        generalize ((wr.setCell ⟨w1.heap.size, 6, none⟩ (.string x)).setCell ⟨w1.heap.size, 5, none⟩ (.int .i64 x.size)) = W9 at *
                        have x0 : W9.cell? ⟨w.heap.size, 0, none⟩ = some (.int .i64 0) := (hRb).cell 0
                        have x1 : W9.cell? ⟨w.heap.size, 1, none⟩ = some (.int .i64 0) := (hRb).cell 1
                        have x2 : W9.cell? ⟨w.heap.size, 2, none⟩ = some (.string { data := #[] }) := (hRb).cell 2
                        have x3 : W9.cell? ⟨w.heap.size, 3, none⟩ = some (.string { data := #[] }) := (hRb).cell 3
                        have x4 : W9.cell? ⟨w.heap.size, 4, none⟩ = some (.int .i64 0) := (hRb).cell 4
                        have x5 : W9.cell? ⟨w.heap.size, 5, none⟩ = some (.int .i64 0) := (hRb).cell 5
                        have x6 : W9.cell? ⟨w.heap.size, 6, none⟩ = some (.string { data := #[] }) := (hRb).cell 6
                        have q1 := (hRb).free
                        go_wp2_with fail
                        exact bodyPost_ret (v := .tuple #[.agg #[.int .i64 0, .int .i64 0, .string { data := #[] }, .string { data := #[] }, .int .i64 0, .int .i64 0, .string { data := #[] }], .int .i64 11]) (by simp [results, Tryz.results4, go_sem, x0, x1, x2, x3, x4, x5, x6]) rfl ⟨by rw [HR.out]; rfl, hend _ HB.out _ _ _ _ _ _ _⟩
                      | false =>
                        have HR : Hid (pS s = (11, cmd0 0)) := HBAD.out (.inr (HG7.out.trans hN'))
                        have hfr := HCB.out.free
                        have d0 : wr.cell? ⟨w1.heap.size, 6, none⟩ = some (.string C.data) := HCB.out.cell 6
                        have hst0 := (HCB.out).set (c' := { C with data := x }) 6 (.string x) rfl
                        have d1 : wr.cell? ⟨w1.heap.size, 5, none⟩ = some (.int .i64 C.len) := HCB.out.cell 5
                        have hst1 := (hst0.1).set (c' := { C with data := x, len := x.size }) 5 (.int .i64 x.size) rfl
                        have hRb : CBox ((wr.setCell ⟨w1.heap.size, 6, none⟩ (.string x)).setCell ⟨w1.heap.size, 5, none⟩ (.int .i64 x.size)) w.heap.size (cmd0 0) := hRr.upd ((hst0.2).trans hst1.2) (.inl (by omega))
                        have HB : Hid (Below w.heap.size w ((wr.setCell ⟨w1.heap.size, 6, none⟩ (.string x)).setCell ⟨w1.heap.size, 5, none⟩ (.int .i64 x.size))) := hBr.trans (((hst0.2).trans hst1.2).below (by omega) hBr.size)
                        go_upto_region 45 with (first | (go_at_call 9; refine NUM.mono ?_; rintro e w5 ⟨rfl, rfl⟩) | (go_at_call 10; refine MSK.mono ?_; rintro e w6 ⟨rfl, rfl⟩))
                        generalize ((wr.setCell ⟨w1.heap.size, 6, none⟩ (.string x)).setCell ⟨w1.heap.size, 5, none⟩ (.int .i64 x.size)) = W9 at *
                        have x0 : W9.cell? ⟨w.heap.size, 0, none⟩ = some (.int .i64 0) := (hRb).cell 0
                        have x1 : W9.cell? ⟨w.heap.size, 1, none⟩ = some (.int .i64 0) := (hRb).cell 1
                        have x2 : W9.cell? ⟨w.heap.size, 2, none⟩ = some (.string { data := #[] }) := (hRb).cell 2
                        have x3 : W9.cell? ⟨w.heap.size, 3, none⟩ = some (.string { data := #[] }) := (hRb).cell 3
                        have x4 : W9.cell? ⟨w.heap.size, 4, none⟩ = some (.int .i64 0) := (hRb).cell 4
                        have x5 : W9.cell? ⟨w.heap.size, 5, none⟩ = some (.int .i64 0) := (hRb).cell 5
                        have x6 : W9.cell? ⟨w.heap.size, 6, none⟩ = some (.string { data := #[] }) := (hRb).cell 6
                        have q1 := (hRb).free
                        go_wp2_with fail
                        exact bodyPost_ret (v := .tuple #[.agg #[.int .i64 0, .int .i64 0, .string { data := #[] }, .string { data := #[] }, .int .i64 0, .int .i64 0, .string { data := #[] }], .int .i64 11]) (by simp [results, Tryz.results4, go_sem, x0, x1, x2, x3, x4, x5, x6]) rfl ⟨by rw [HR.out]; rfl, hend _ HB.out _ _ _ _ _ _ _⟩
              · have hke : k = ks.length := by omega
                have HR : Hid (pS s = (0, lyN (cmd0 op) ks zs ks.length)) := HP1.out.trans (pT_fine HF.out HL.out fun j hj => HG.out j (by have hj2 : j < ks.length := hj; omega))
                subst hke
                have hnk : ¬ (ks.length : Int) < (L.size : Int) := by omega
                generalize lyN (cmd0 op) ks zs ks.length = C at *
                obtain ⟨Cop, Ctr, Cpa, Cpb, Cof, Cle, Cda⟩ := C
                have c0 : wr.cell? ⟨w1.heap.size, 0, none⟩ = some (.int .i64 Cop) := hcb.cell 0
                have c1 : wr.cell? ⟨w1.heap.size, 1, none⟩ = some (.int .i64 Ctr) := hcb.cell 1
                have c2 : wr.cell? ⟨w1.heap.size, 2, none⟩ = some (.string Cpa) := hcb.cell 2
                have c3 : wr.cell? ⟨w1.heap.size, 3, none⟩ = some (.string Cpb) := hcb.cell 3
                have c4 : wr.cell? ⟨w1.heap.size, 4, none⟩ = some (.int .i64 Cof) := hcb.cell 4
                have c5 : wr.cell? ⟨w1.heap.size, 5, none⟩ = some (.int .i64 Cle) := hcb.cell 5
                have c6 : wr.cell? ⟨w1.heap.size, 6, none⟩ = some (.string Cda) := hcb.cell 6
                have x0 : wr.cell? ⟨w.heap.size, 0, none⟩ = some (.int .i64 0) := (hRr).cell 0
                have x1 : wr.cell? ⟨w.heap.size, 1, none⟩ = some (.int .i64 0) := (hRr).cell 1
                have x2 : wr.cell? ⟨w.heap.size, 2, none⟩ = some (.string { data := #[] }) := (hRr).cell 2
                have x3 : wr.cell? ⟨w.heap.size, 3, none⟩ = some (.string { data := #[] }) := (hRr).cell 3
                have x4 : wr.cell? ⟨w.heap.size, 4, none⟩ = some (.int .i64 0) := (hRr).cell 4
                have x5 : wr.cell? ⟨w.heap.size, 5, none⟩ = some (.int .i64 0) := (hRr).cell 5
                have x6 : wr.cell? ⟨w.heap.size, 6, none⟩ = some (.string { data := #[] }) := (hRr).cell 6
                have q1 := (hRr).free
                have HB : Hid (Below w.heap.size w wr) := hBr
                clear hcb hu HL HF HC1
                go_wp2_with fail
                exact bodyPost_ret (v := .tuple #[.agg #[.int .i64 Cop, .int .i64 Ctr, .string Cpa, .string Cpb, .int .i64 Cof, .int .i64 Cle, .string Cda], .int .i64 0]) (by simp [results, Tryz.results4, go_sem, x0, x1, x2, x3, x4, x5, x6]) rfl ⟨by rw [HR.out]; rfl, hend _ HB.out _ _ _ _ _ _ _⟩
          · have hne : ((zs.length : Int) != 1 + (L.size : Int)) = true := by simp; omega
            have HR : Hid (pS s = (11, cmd0 0)) := HP1.out.trans (pT_len' hf hl)
            clear hl hf
            go_upto_region 11 with (go_at_call 8; refine hW.mono ?_; rintro e w2 ⟨rfl, hw2⟩; rw [hw2])
            have x0 : w1.cell? ⟨w.heap.size, 0, none⟩ = some (.int .i64 0) := (hR1).cell 0
            have x1 : w1.cell? ⟨w.heap.size, 1, none⟩ = some (.int .i64 0) := (hR1).cell 1
            have x2 : w1.cell? ⟨w.heap.size, 2, none⟩ = some (.string { data := #[] }) := (hR1).cell 2
            have x3 : w1.cell? ⟨w.heap.size, 3, none⟩ = some (.string { data := #[] }) := (hR1).cell 3
            have x4 : w1.cell? ⟨w.heap.size, 4, none⟩ = some (.int .i64 0) := (hR1).cell 4
            have x5 : w1.cell? ⟨w.heap.size, 5, none⟩ = some (.int .i64 0) := (hR1).cell 5
            have x6 : w1.cell? ⟨w.heap.size, 6, none⟩ = some (.string { data := #[] }) := (hR1).cell 6
            have q1 := (hR1).free
            have HB : Hid (Below w.heap.size w w1) := hB1
            go_wp2_with fail
            exact bodyPost_ret (v := .tuple #[.agg #[.int .i64 0, .int .i64 0, .string { data := #[] }, .string { data := #[] }, .int .i64 0, .int .i64 0, .string { data := #[] }], .int .i64 11]) (by simp [results, Tryz.results4, go_sem, x0, x1, x2, x3, x4, x5, x6]) rfl ⟨by rw [HR.out]; rfl, hend _ HB.out _ _ _ _ _ _ _⟩

end Go.Proofs.YtempdkoflofglaaGreatDoor
