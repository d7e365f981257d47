import Derived.Test.YtempdkoflofglaaGreatDoorPL
import Derived.Laws.EntriesVeiled
import Derived.Laws.Cover3
import Derived.Deep.DeepCutAuto
namespace Go.Proofs.YtempdkoflofglaaGreatDoor
open Go.RowKit
set_option linter.unusedVariables false

/-- the command behind the first i words -/
def lyN (c : Cmd) (ks : List Int) (ws : List ByteArray) : Nat → Cmd
  | 0 => c
  | i + 1 => layC (lyN c ks ws i) (ks.getD i 0).toNat (txt ws (i + 1))
/-- word i is of its kind -/
def lyG (ks : List Int) (ws : List ByteArray) (i : Nat) : Bool := layG (ks.getD i 0).toNat (txt ws (i + 1))
/-- all are -/
def lyA (ks : List Int) (ws : List ByteArray) : Bool := (List.range ks.length).all (lyG ks ws)

theorem lyA_bad {ks : List Int} {ws : List ByteArray} (i : Nat) (h : i < ks.length) (hb : lyG ks ws i = false) : lyA ks ws = false := by
  by_cases hh : lyA ks ws = true
  · have := List.all_eq_true.1 hh i (List.mem_range.2 h)
    rw [hb] at this; cases this
  · simpa using hh
theorem lyA_good {ks : List Int} {ws : List ByteArray} (H : ∀ i, i < ks.length → lyG ks ws i = true) : lyA ks ws = true :=
  List.all_eq_true.2 fun i hi => H i (List.mem_range.1 hi)

/-- what words are answered with -/
def pT (zs : List ByteArray) : Int × Cmd :=
  if Lib.containsS zs eT = true then (11, cmd0 0) else
  match TBL.find? (fun t => decide (t.1 = txt zs 0)) with
  | none => (11, cmd0 0)
  | some t => if zs.length = 1 + t.2.2.length then (if lyA t.2.2 zs = true then (0, lyN (cmd0 t.2.1) t.2.2 zs t.2.2.length) else (11, cmd0 0)) else (11, cmd0 0)
/-- what a line is answered with -/
def pS (s : ByteArray) : Int × Cmd := if 1500 < s.size then (4, cmd0 0) else if allB gdL s = false then (11, cmd0 0) else pT (cut s)

theorem pT_empty {zs : List ByteArray} (h : Lib.containsS zs eT = true) : pT zs = (11, cmd0 0) := by rw [pT, if_pos h]
theorem pT_none {zs : List ByteArray} (h : Lib.containsS zs eT = false) (hf : TBL.find? (fun t => decide (t.1 = txt zs 0)) = none) : pT zs = (11, cmd0 0) := by
  rw [pT, if_neg (by rw [h]; decide), hf]
theorem pT_len {zs : List ByteArray} {t : ByteArray × Int × List Int} (h : Lib.containsS zs eT = false) (hf : TBL.find? (fun t => decide (t.1 = txt zs 0)) = some t) (hl : ¬ zs.length = 1 + t.2.2.length) : pT zs = (11, cmd0 0) := by
  rw [pT, if_neg (by rw [h]; decide), hf]; exact if_neg hl
theorem pT_bad {zs : List ByteArray} {t : ByteArray × Int × List Int} (h : Lib.containsS zs eT = false) (hf : TBL.find? (fun t => decide (t.1 = txt zs 0)) = some t) (hl : zs.length = 1 + t.2.2.length) (hb : lyA t.2.2 zs = false) : pT zs = (11, cmd0 0) := by
  rw [pT, if_neg (by rw [h]; decide), hf]; exact (if_pos hl).trans (if_neg (by rw [hb]; decide))
theorem pT_good {zs : List ByteArray} {t : ByteArray × Int × List Int} (h : Lib.containsS zs eT = false) (hf : TBL.find? (fun t => decide (t.1 = txt zs 0)) = some t) (hl : zs.length = 1 + t.2.2.length) (hb : lyA t.2.2 zs = true) : pT zs = (0, lyN (cmd0 t.2.1) t.2.2 zs t.2.2.length) := by
  rw [pT, if_neg (by rw [h]; decide), hf]; exact (if_pos hl).trans (if_pos hb)

/-- the kinds are small numbers -/
theorem TBL_kinds : (TBL.all fun t => t.2.2.all fun k => decide (0 ≤ k ∧ k ≤ 7)) = true := by decide

theorem word_pos {zs : List ByteArray} (h : Lib.containsS zs eT = false) (i : Nat) (hi : i < zs.length) (hm : txt zs i ∈ zs) : 1 ≤ (txt zs i).size := by
  rcases Nat.lt_or_ge 0 (txt zs i).size with h1 | h1
  · exact h1
  · exfalso
    have e : txt zs i = eT := by
      cases hx : txt zs i with
      | mk d => rw [hx] at h1; simp [ByteArray.size] at h1; rw [h1]; rfl
    rw [e] at hm
    rw [(Lib.containsS_iff zs eT).2 hm] at h
    cases h

/-- a verb lies in block b -/
def VBox (w : World) (b : Nat) (x y z : Value) : Prop := w.heap[b]? = some (.cells #[x, y, z] 37 (0, 0))
theorem VBox.lt {w : World} {b : Nat} {x y z : Value} (h : VBox w b x y z) : b < w.heap.size := (Array.getElem?_eq_some_iff.1 h).1
theorem VBox.below {w w' : World} {b : Nat} {x y z : Value} (h : VBox w b x y z) (k : Below w.heap.size w w') : VBox w' b x y z := (k.block b h.lt).trans h
theorem VBox.upd {w w' : World} {b lo hi : Nat} {x y z : Value} (h : VBox w b x y z) (k : Upd lo hi w w') (hd : b < lo ∨ hi ≤ b) : VBox w' b x y z := (k.block b h.lt hd).trans h
theorem VBox.made (w : World) (x y z : Value) (g : Nat) (hg : g = w.heap.size) : VBox (w.alloc (.cells #[x, y, z] 37)) g x y z := by subst hg; exact heap_alloc_new w _
theorem VBox.cells {w : World} {b : Nat} {x y z : Value} (h : VBox w b x y z) : w.cell? ⟨b, 0, none⟩ = some x ∧ w.cell? ⟨b, 1, none⟩ = some y ∧ w.cell? ⟨b, 2, none⟩ = some z := by
  unfold VBox at h
  simp [World.cell?, h]
theorem VBox.free {w : World} {b : Nat} {x y z : Value} (h : VBox w b x y z) (i : Nat) : w.frozen? ⟨b, i, none⟩ = false := frozen_of_row w b i _ _ h

theorem nil_eq (a : Option Addr) (n c : Nat) (w : World) : (binOp .eql 28 (.slice a n c) (.slice none 0 0)).run Tryz.prog w = .ok (.bool (decide (a = none))) w := by
  have h := run_equal_slice_nil (P := Tryz.prog) w 28 9 a n c Tryz.underlying28
  cases a <;> simp [binOp, h]

theorem txt_mem (zs : List ByteArray) (i : Nat) (h : i < zs.length) : txt zs i ∈ zs := by
  simp only [txt, List.getD_eq_getElem?_getD, List.getElem?_eq_getElem h, Option.getD_some]
  exact List.getElem_mem h

/-- the results' boxes -/
def RBox (w : World) (g : Nat) : Prop := VBox w g (.int .i64 0) (.slice none 0 0) .nilFunc ∧ CBox w (g + 1) (cmd0 0)
theorem RBox.below {w w' : World} {g : Nat} (h : RBox w g) (k : Below w.heap.size w w') : RBox w' g := ⟨h.1.below k, h.2.below k⟩
theorem RBox.upd {w w' : World} {g lo hi : Nat} (h : RBox w g) (k : Upd lo hi w w') (hd : g + 1 < lo) : RBox w' g := ⟨h.1.upd k (.inl (by omega)), h.2.upd k (.inl hd)⟩
theorem RBox.made (w : World) : RBox ((w.alloc (.cells #[.int .i64 0, .slice none 0 0, .nilFunc] 37)).alloc (.cells (cmd0 0).cells 23)) w.heap.size :=
  ⟨(VBox.made w _ _ _ _ rfl).below ((Below.refl _ _).alloc (Nat.le_refl _) _), CBox.made _ _ _ (by simp)⟩
theorem RBox.facts {w : World} {g : Nat} (h : RBox w g) : (w.cell? ⟨g, 0, none⟩ = some (.int .i64 0) ∧ w.cell? ⟨g, 1, none⟩ = some (.slice none 0 0) ∧ w.cell? ⟨g, 2, none⟩ = some .nilFunc) ∧ (w.cell? ⟨g + 1, 0, none⟩ = some (.int .i64 0) ∧ w.cell? ⟨g + 1, 1, none⟩ = some (.int .i64 0) ∧ w.cell? ⟨g + 1, 2, none⟩ = some (.string { data := #[] }) ∧ w.cell? ⟨g + 1, 3, none⟩ = some (.string { data := #[] }) ∧ w.cell? ⟨g + 1, 4, none⟩ = some (.int .i64 0) ∧ w.cell? ⟨g + 1, 5, none⟩ = some (.int .i64 0) ∧ w.cell? ⟨g + 1, 6, none⟩ = some (.string { data := #[] })) ∧ (∀ j, w.frozen? ⟨g, j, none⟩ = false) ∧ (∀ j, w.frozen? ⟨g + 1, j, none⟩ = false) :=
  ⟨h.1.cells, ⟨h.2.cell 0, h.2.cell 1, h.2.cell 2, h.2.cell 3, h.2.cell 4, h.2.cell 5, h.2.cell 6⟩, h.1.free, h.2.free⟩

/-- the form of a verb -/
def VSh (v : Value) : Prop := ∃ (x : Int) (a : Option Addr) (n c : Nat) (f : Value), v = .agg #[.int .i64 x, .slice a n c, f] ∧ (f = .nilFunc ∨ ∃ i j k, f = .func i j k)

set_option maxRecDepth 100000 in
set_option maxHeartbeats 8000000 in
theorem readLine_any (mb : Nat) (s : ByteArray) (w : World) (hV : VMap w mb TBL) (hs : s.size ≤ 1048576) :
    Calls Tryz.prog 11 #[.map (some mb), .string s] w fun e w' => ∃ v, VSh v ∧ e = .returned (.tuple #[v, .agg (pS s).2.cells, .int .i64 (pS s).1]) ∧ Below w.heap.size w w' := by
  obtain ⟨W0, hW0⟩ : ∃ W0, W0 = (w.alloc (.cells #[.int .i64 0, .slice none 0 0, .nilFunc] 37)).alloc (.cells (cmd0 0).cells 23) := ⟨_, rfl⟩
  have hR0 : RBox W0 w.heap.size := by rw [hW0]; exact RBox.made w
  have hB0 : Below w.heap.size w W0 := by rw [hW0]; exact ((Below.refl _ _).alloc (Nat.le_refl _) _).alloc (by simp) _
  have hs0 : w.heap.size + 2 ≤ W0.heap.size := by rw [hW0]; simp
  have HW0 : Hid (W0 = (w.alloc (.cells #[.int .i64 0, .slice none 0 0, .nilFunc] 37)).alloc (.cells #[.int .i64 0, .int .i64 0, .string { data := #[] }, .string { data := #[] }, .int .i64 0, .int .i64 0, .string { data := #[] }] 23)) := hW0
  clear hW0
  have hend : ∀ (W : World), Below w.heap.size w W → ∀ x0 x1 x2 z0 z1 z2 z3 z4 z5 z6 : Value, Below w.heap.size w ((((((((((W.setCell ⟨w.heap.size, 0, none⟩ x0).setCell ⟨w.heap.size, 1, none⟩ x1).setCell ⟨w.heap.size, 2, none⟩ x2).setCell ⟨w.heap.size + 1, 0, none⟩ z0).setCell ⟨w.heap.size + 1, 1, none⟩ z1).setCell ⟨w.heap.size + 1, 2, none⟩ z2).setCell ⟨w.heap.size + 1, 3, none⟩ z3).setCell ⟨w.heap.size + 1, 4, none⟩ z4).setCell ⟨w.heap.size + 1, 5, none⟩ z5).setCell ⟨w.heap.size + 1, 6, none⟩ z6) := fun W h x0 x1 x2 z0 z1 z2 z3 z4 z5 z6 =>
    have p0 : w.heap.size ≤ w.heap.size := Nat.le_refl _
    have p1 : w.heap.size ≤ w.heap.size + 1 := Nat.le_succ _
    (((((((((h.setCell (p := ⟨w.heap.size, 0, none⟩) p0 x0).setCell (p := ⟨w.heap.size, 1, none⟩) p0 x1).setCell (p := ⟨w.heap.size, 2, none⟩) p0 x2).setCell (p := ⟨w.heap.size + 1, 0, none⟩) p1 z0).setCell (p := ⟨w.heap.size + 1, 1, none⟩) p1 z1).setCell (p := ⟨w.heap.size + 1, 2, none⟩) p1 z2).setCell (p := ⟨w.heap.size + 1, 3, none⟩) p1 z3).setCell (p := ⟨w.heap.size + 1, 4, none⟩) p1 z4).setCell (p := ⟨w.heap.size + 1, 5, none⟩) p1 z5).setCell (p := ⟨w.heap.size + 1, 6, none⟩) p1 z6
  by_cases h15 : 1500 < s.size
  · have HR : Hid (pS s = (4, cmd0 0)) := by show pS s = _; rw [pS, if_pos h15]
    go_enter Tryz.func11, Tryz.ntmps11
    go_upto_region 2 with fail
    rw [← HW0.out]
    obtain ⟨⟨y0, y1, y2⟩, ⟨x0, x1, x2, x3, x4, x5, x6⟩, q0, q1⟩ := (hR0).facts
    have HB : Hid (Below w.heap.size w _) := hB0
    go_wp2_with fail
    exact bodyPost_ret (v := .tuple #[.agg #[.int .i64 0, .slice none 0 0, .nilFunc], .agg #[.int .i64 0, .int .i64 0, .string { data := #[] }, .string { data := #[] }, .int .i64 0, .int .i64 0, .string { data := #[] }], .int .i64 4]) (by simp [results, Tryz.results11, go_sem, y0, y1, y2, x0, x1, x2, x3, x4, x5, x6]) rfl ⟨_, ⟨0, none, 0, 0, .nilFunc, rfl, .inl rfl⟩, by rw [HR.out]; rfl, hend _ HB.out _ _ _ _ _ _ _ _ _ _⟩
  · go_enter Tryz.func11, Tryz.ntmps11
    go_upto_region 3 with fail
    rw [← HW0.out]
    have hV1 := hV.below hB0
    go_wp2_with (go_at_call 13; refine (wordsOf_any s W0 (by omega)).mono ?_)
    rintro e w1 ⟨v, rfl, hWo, hb1⟩
    have hR1 := hR0.below hb1
    have hs1 := hb1.size
    have hB1 := hB0.trans (hb1.mono (by omega))
    have hV2 : VMap w1 mb TBL := hV1.below hb1
    have hml := hV.lt
    clear hR0 hV1 hV
    have hnl : ∀ a n c, (binOp .eql 28 (.slice a n c) (.slice none 0 0)).run Tryz.prog w1 = .ok (.bool (decide (a = none))) w1 := fun a n c => nil_eq a n c w1
    rcases hWo with ⟨hall, ⟨⟨vb, vo, vx⟩, vn, vc, rfl⟩, hown⟩ | ⟨hall, rfl⟩
    · obtain ⟨_, cap, he, hc⟩ := hown
      simp only [Value.slice.injEq] at he
      obtain ⟨rfl, rfl, rfl⟩ := he
      obtain ⟨hpl, hp1, hpx⟩ := cut_pieces _ s (Nat.le_refl _)
      obtain ⟨_, _, ha, g1, g2, g3, hcell⟩ := hc (by omega)
      simp only [Option.some.injEq, Addr.mk.injEq] at ha
      obtain ⟨rfl, rfl, rfl⟩ := ha
      have HP : Hid (∀ i, i < (cut s).length → (txt (cut s) i).size ≤ s.size) := fun i hi => (hpx _ (txt_mem _ i hi)).1
      have hc1 : ∀ i, i < (cut s).length → w1.cell? ⟨vb, vo + i, none⟩ = some (.string ((cut s).getD i ByteArray.empty)) := fun i hi => (hcell i hi).1
      have hn0 := hnl (some ⟨vb, vo, none⟩) (cut s).length vc
      have HP1 : Hid (pS s = pT (cut s)) := by show pS s = _; rw [pS, if_neg h15, if_neg (by rw [hall]; decide)]
      clear hnl hc hpx hall hcell
      generalize cut s = zs at *
      by_cases hct : Lib.containsS zs eT = true
      · have hct' : Lib.containsS zs { data := #[] } = true := hct
        have HR : Hid (pS s = (11, cmd0 0)) := HP1.out.trans (pT_empty hct)
        go_upto_region 5 with (go_at_call 14; refine (Tryz.slices_Contains_string vb vo zs.length vc zs _ w1 (Nat.le_refl _) (by omega) hc1).mono ?_; rintro e w' ⟨rfl, hw'⟩; rw [hw', List.take_length])
        clear hc1
        obtain ⟨⟨y0, y1, y2⟩, ⟨x0, x1, x2, x3, x4, x5, x6⟩, q0, q1⟩ := (hR1).facts
        have HB : Hid (Below w.heap.size w _) := hB1
        go_wp2_with fail
        exact bodyPost_ret (v := .tuple #[.agg #[.int .i64 0, .slice none 0 0, .nilFunc], .agg #[.int .i64 0, .int .i64 0, .string { data := #[] }, .string { data := #[] }, .int .i64 0, .int .i64 0, .string { data := #[] }], .int .i64 11]) (by simp [results, Tryz.results11, go_sem, y0, y1, y2, x0, x1, x2, x3, x4, x5, x6]) rfl ⟨_, ⟨0, none, 0, 0, .nilFunc, rfl, .inl rfl⟩, by rw [HR.out]; rfl, hend _ HB.out _ _ _ _ _ _ _ _ _ _⟩
      · have hct1 : Lib.containsS zs eT = false := by simpa using hct
        have hct' : Lib.containsS zs { data := #[] } = false := hct1
        have HCT : Hid (Lib.containsS zs eT = false) := hct1
        go_upto_region 6 with (go_at_call 14; refine (Tryz.slices_Contains_string vb vo zs.length vc zs _ w1 (Nat.le_refl _) (by omega) hc1).mono ?_; rintro e w' ⟨rfl, hw'⟩; rw [hw', List.take_length])
        have hc0 : w1.cell? ⟨vb, vo, none⟩ = some (.string (txt zs 0)) := hc1 0 (by omega)
        clear hct hct' hct1 hn0
        cases hf : TBL.find? (fun t => decide (t.1 = txt zs 0)) with
        | none =>
          have HR : Hid (pS s = (11, cmd0 0)) := HP1.out.trans (pT_none HCT.out hf)
          have hlk := hV2.look_no (s := txt zs 0) fun t ht e => by
            have := List.find?_eq_none.1 hf t ht
            simp [e] at this
          go_upto_region 8 with fail
          obtain ⟨W8, hW8⟩ : ∃ W8, W8 = w1.alloc (.cells #[.int .i64 0, .slice none 0 0, .nilFunc] 37) := ⟨_, rfl⟩
          have hA8 : Below w1.heap.size w1 W8 := by rw [hW8]; exact belowA _ _
          rw [← hW8]
          clear hW8 hlk
          have hB8 := hB1.trans (hA8.mono (by omega))
          obtain ⟨⟨y0, y1, y2⟩, ⟨x0, x1, x2, x3, x4, x5, x6⟩, q0, q1⟩ := (hR1.below hA8).facts
          have HB : Hid (Below w.heap.size w _) := hB8
          go_wp2_with fail
          exact bodyPost_ret (v := .tuple #[.agg #[.int .i64 0, .slice none 0 0, .nilFunc], .agg #[.int .i64 0, .int .i64 0, .string { data := #[] }, .string { data := #[] }, .int .i64 0, .int .i64 0, .string { data := #[] }], .int .i64 11]) (by simp [results, Tryz.results11, go_sem, y0, y1, y2, x0, x1, x2, x3, x4, x5, x6]) rfl ⟨_, ⟨0, none, 0, 0, .nilFunc, rfl, .inl rfl⟩, by rw [HR.out]; rfl, hend _ HB.out _ _ _ _ _ _ _ _ _ _⟩
        | some t =>
          obtain ⟨tk, op, ks⟩ := t
          obtain ⟨sl, fF, fX, fY, hlk, hkr⟩ := hV2.look_yes hf
          obtain ⟨sa, rfl, hkc⟩ := hkr
          simp only at hlk hkc
          have HK : Hid (∀ i, i < ks.length → 0 ≤ ks.getD i 0 ∧ ks.getD i 0 ≤ 7) := fun i hi => by
            have h1 := List.all_eq_true.1 TBL_kinds _ (List.mem_of_find?_eq_some hf)
            have h2 := List.all_eq_true.1 h1 (ks.getD i 0) (by simp only [List.getD_eq_getElem?_getD, List.getElem?_eq_getElem hi, Option.getD_some]; exact List.getElem_mem hi)
            exact of_decide_eq_true h2
          have hkl : ks.length ≤ 1000 := by
            have h1 : (TBL.all fun t => decide (t.2.2.length ≤ 1000)) = true := by decide
            exact of_decide_eq_true (List.all_eq_true.1 h1 _ (List.mem_of_find?_eq_some hf))
          have hVB := VBox.made w1 (.int .i64 op) (.slice sa ks.length ks.length) (.func fF fX fY) w1.heap.size rfl
          have hA8' := belowA w1 (.cells #[.int .i64 op, .slice sa ks.length ks.length, .func fF fX fY] 37)
          by_cases hl : zs.length = 1 + ks.length
          · have hne : ((zs.length : Int) != 1 + (ks.length : Int)) = false := by simp; omega
            have HL : Hid (zs.length = 1 + ks.length) := hl
            have hl1 : zs.length ≤ 1 + ks.length := by omega
            have hl2 : 1 + ks.length ≤ zs.length := by omega
            clear hl
            go_upto_region 9 with fail
            obtain ⟨W8, hW8⟩ : ∃ W8, W8 = w1.alloc (.cells #[.int .i64 op, .slice sa ks.length ks.length, .func fF fX fY] 37) := ⟨_, rfl⟩
            rw [← hW8] at hA8' hVB ⊢
            clear hW8 hlk
            have hs8 := hA8'.size
            have hB8 := hB1.trans (hA8'.mono (by omega))
            have hR8 := hR1.below hA8'
            obtain ⟨W10, hW10⟩ : ∃ W10, W10 = W8.alloc (.cells (cmd0 op).cells 23) := ⟨_, rfl⟩
            have HW10 : Hid (W10 = W8.alloc (.cells #[.int .i64 op, .int .i64 0, .string { data := #[] }, .string { data := #[] }, .int .i64 0, .int .i64 0, .string { data := #[] }] 23)) := hW10
            have hA10 : Below W8.heap.size W8 W10 := by rw [hW10]; exact belowA _ _
            have hC10 : CBox W10 W8.heap.size (cmd0 op) := by rw [hW10]; exact CBox.made _ _ _ rfl
            have hs10 : W8.heap.size < W10.heap.size := hC10.lt
            have hB10 := hB8.trans (hA10.mono hB8.size)
            have hR10 := hR8.below hA10
            have hVB10 := hVB.below hA10
            have hv8 := hVB.lt
            have HC1 : Hid (∀ i, i < zs.length → W10.cell? ⟨vb, vo + i, none⟩ = some (.string (txt zs i))) := fun i hi => (hA10.cell (p := ⟨vb, vo + i, none⟩) (by show vb < W8.heap.size; omega)).trans ((hA8'.cell (p := ⟨vb, vo + i, none⟩) g3).trans (hc1 i hi))
            obtain ⟨b0, b1, b2⟩ := hVB.cells
            clear hW10 hc1 hc0
            go_upto_region 10 with fail
            rw [← HW10.out]
            clear b0 b1 b2
            obtain ⟨b0, b1, b2⟩ := hVB10.cells
            go_wp2_with fail
            clear b0 b1 b2
            go_loopg [55] ks.length (fun g i wr => ∃ k : Nat, g = ks.length - k ∧ k ≤ ks.length ∧ i = .int .i64 k ∧ CBox wr W8.heap.size (lyN (cmd0 op) ks zs k) ∧ Upd W8.heap.size (W8.heap.size + 1) W10 wr ∧ ∀ j, j < k → lyG ks zs j = true)
            case atStart => exact ⟨0, rfl, Nat.zero_le _, rfl, hC10, Upd.refl _ _ _, fun j hj => by omega⟩
            case round =>
              obtain ⟨k, rfl, hk, rfl, hcb, hu, hg⟩ := hrel
              have husz := hu.size
              have HG : Hid (∀ j, j < k → lyG ks zs j = true) := hg
              have hBr : Below w.heap.size w wr := hB10.trans (hu.below (by omega) hB10.size)
              have hRr := hR10.upd hu (by omega)
              have hVr := hVB10.upd hu (.inl (by omega))
              clear hg
              by_cases hlt : k < ks.length
              · obtain ⟨g, rfl, _, gl, hkcell⟩ := hkc (by omega)
                have hkk := HK.out k hlt
                have gk : wr.cell? ⟨g, k, none⟩ = some (.int .i64 (ks.getD k 0)) := (World.cell?_of_block (a := ⟨g, k, none⟩) (hu.block g (by omega) (.inl (by omega)))).trans ((hA10.cell (p := ⟨g, k, none⟩) (by show g < W8.heap.size; omega)).trans ((hA8'.cell (p := ⟨g, k, none⟩) gl).trans (hkcell k hlt)))
                have gw : wr.cell? ⟨vb, vo + (k + 1), none⟩ = some (.string (txt zs (k + 1))) := (World.cell?_of_block (a := ⟨vb, vo + (k + 1), none⟩) (hu.block vb (by omega) (.inl (by omega)))).trans (HC1.out (k + 1) (by omega))
                have gw' : wr.cell? ⟨vb, vo + 1 + k, none⟩ = some (.string (txt zs (k + 1))) := by rw [show vo + 1 + k = vo + (k + 1) by omega]; exact gw
                have gw2 : wr.cell? ⟨vb, vo + (1 + k), none⟩ = some (.string (txt zs (k + 1))) := by rw [show vo + (1 + k) = vo + (k + 1) by omega]; exact gw
                have hwp := word_pos HCT.out (k + 1) (by omega) (txt_mem zs (k + 1) (by omega))
                have hws := HP.out (k + 1) (by omega)
                obtain ⟨kk, hkv⟩ : ∃ kk : Nat, ks.getD k 0 = (kk : Int) := ⟨(ks.getD k 0).toNat, by omega⟩
                have hk7 : kk ≤ 7 := by omega
                have HLY : Hid (lyN (cmd0 op) ks zs (k + 1) = layC (lyN (cmd0 op) ks zs k) kk (txt zs (k + 1))) := by show lyN _ _ _ (k + 1) = _; rw [lyN, hkv, Int.toNat_natCast]
                have HLG : Hid (lyG ks zs k = layG kk (txt zs (k + 1))) := by show lyG _ _ _ = _; rw [lyG, hkv, Int.toNat_natCast]
                rw [hkv] at gk
                have hklt : (k : Int) < (ks.length : Int) := by omega
                clear hkcell hkk hkc hkv
                by_cases hgd : layG kk (txt zs (k + 1)) = true
                · have HGD : Hid (lyG ks zs k = true) := HLG.out.trans hgd
                  go_wp2_with (go_at_call 15; refine (lay_any kk hk7 W8.heap.size _ (txt zs (k + 1)) wr hcb hwp (by omega)).mono ?_; rw [hgd]; rintro e w2 ⟨rfl, hcb2, hu2⟩)
                  go_roundg (ks.length - (k + 1))
                  case measure => omega
                  case rel =>
                    refine ⟨k + 1, rfl, by omega, by go_num, by rw [HLY.out]; exact hcb2, hu.trans hu2, fun j hj => ?_⟩
                    by_cases e : j = k
                    · subst e; exact HGD.out
                    · exact HG.out j (by omega)
                · have hgd' : layG kk (txt zs (k + 1)) = false := by simpa using hgd
                  have HR : Hid (pS s = (11, cmd0 0)) := HP1.out.trans (pT_bad HCT.out hf HL.out (lyA_bad k hlt (HLG.out.trans hgd')))
                  go_upto_region 14 with (go_at_call 15; refine (lay_any kk hk7 W8.heap.size _ (txt zs (k + 1)) wr hcb hwp (by omega)).mono ?_; rw [hgd']; rintro e w2 ⟨rfl, hcb2, hu2⟩)
                  have hB2 := hBr.trans (hu2.below (by omega) hBr.size)
                  clear hcb hcb2 gk gw gw' gw2
                  obtain ⟨⟨y0, y1, y2⟩, ⟨x0, x1, x2, x3, x4, x5, x6⟩, q0, q1⟩ := (hRr.upd hu2 (by omega)).facts
                  have HB : Hid (Below w.heap.size w _) := hB2
                  go_wp2_with fail
                  exact bodyPost_ret (v := .tuple #[.agg #[.int .i64 0, .slice none 0 0, .nilFunc], .agg #[.int .i64 0, .int .i64 0, .string { data := #[] }, .string { data := #[] }, .int .i64 0, .int .i64 0, .string { data := #[] }], .int .i64 11]) (by simp [results, Tryz.results11, go_sem, y0, y1, y2, x0, x1, x2, x3, x4, x5, x6]) rfl ⟨_, ⟨0, none, 0, 0, .nilFunc, rfl, .inl rfl⟩, by rw [HR.out]; rfl, hend _ HB.out _ _ _ _ _ _ _ _ _ _⟩
              · have hke : k = ks.length := by omega
                have HR : Hid (pS s = (0, lyN (cmd0 op) ks zs ks.length)) := HP1.out.trans (pT_good HCT.out hf HL.out (lyA_good fun i hi => HG.out i (by have h2 : i < ks.length := hi; omega)))
                have hcb' : CBox wr W8.heap.size (lyN (cmd0 op) ks zs ks.length) := by rw [← hke]; exact hcb
                clear hcb hke
                generalize lyN (cmd0 op) ks zs ks.length = cm at *
                obtain ⟨⟨y0, y1, y2⟩, ⟨x0, x1, x2, x3, x4, x5, x6⟩, q0, q1⟩ := hRr.facts
                obtain ⟨b0, b1, b2⟩ := hVr.cells
                have c0 : wr.cell? ⟨W8.heap.size, 0, none⟩ = some (.int .i64 cm.op) := hcb'.cell 0
                have c1 : wr.cell? ⟨W8.heap.size, 1, none⟩ = some (.int .i64 cm.tree) := hcb'.cell 1
                have c2 : wr.cell? ⟨W8.heap.size, 2, none⟩ = some (.string cm.path) := hcb'.cell 2
                have c3 : wr.cell? ⟨W8.heap.size, 3, none⟩ = some (.string cm.path2) := hcb'.cell 3
                have c4 : wr.cell? ⟨W8.heap.size, 4, none⟩ = some (.int .i64 cm.off) := hcb'.cell 4
                have c5 : wr.cell? ⟨W8.heap.size, 5, none⟩ = some (.int .i64 cm.len) := hcb'.cell 5
                have c6 : wr.cell? ⟨W8.heap.size, 6, none⟩ = some (.string cm.data) := hcb'.cell 6
                have hne1 : W8.heap.size ≠ w.heap.size := by omega
                have hne2 : W8.heap.size ≠ w.heap.size + 1 := by omega
                have hne3 : w1.heap.size ≠ w.heap.size := by omega
                have hne4 : w1.heap.size ≠ w.heap.size + 1 := by omega
                have HBR : Hid _ := hBr
                clear hcb' hVr hRr hBr hkc
                go_wp2_with fail
                go_region
                go_wp2_with fail
                exact bodyPost_ret (v := .tuple #[.agg #[.int .i64 op, .slice sa ks.length ks.length, .func fF fX fY], .agg #[.int .i64 cm.op, .int .i64 cm.tree, .string cm.path, .string cm.path2, .int .i64 cm.off, .int .i64 cm.len, .string cm.data], .int .i64 0]) (by simp [results, Tryz.results11, go_sem, y0, y1, y2, x0, x1, x2, x3, x4, x5, x6]) rfl ⟨_, ⟨op, sa, ks.length, ks.length, _, rfl, .inr ⟨_, _, _, rfl⟩⟩, by rw [HR.out]; rfl, (hend _ HBR.out _ _ _ _ _ _ _ _ _ _).drew⟩
          · have HR : Hid (pS s = (11, cmd0 0)) := HP1.out.trans (pT_len HCT.out hf hl)
            have hne : ((zs.length : Int) != 1 + (ks.length : Int)) = true := by simp; omega
            go_upto_region 8 with fail
            obtain ⟨W8, hW8⟩ : ∃ W8, W8 = w1.alloc (.cells #[.int .i64 op, .slice sa ks.length ks.length, .func fF fX fY] 37) := ⟨_, rfl⟩
            rw [← hW8] at hA8' ⊢
            clear hW8 hlk hkc hVB
            have hB8 := hB1.trans (hA8'.mono (by omega))
            obtain ⟨⟨y0, y1, y2⟩, ⟨x0, x1, x2, x3, x4, x5, x6⟩, q0, q1⟩ := (hR1.below hA8').facts
            have HB : Hid (Below w.heap.size w _) := hB8
            go_wp2_with fail
            exact bodyPost_ret (v := .tuple #[.agg #[.int .i64 0, .slice none 0 0, .nilFunc], .agg #[.int .i64 0, .int .i64 0, .string { data := #[] }, .string { data := #[] }, .int .i64 0, .int .i64 0, .string { data := #[] }], .int .i64 11]) (by simp [results, Tryz.results11, go_sem, y0, y1, y2, x0, x1, x2, x3, x4, x5, x6]) rfl ⟨_, ⟨0, none, 0, 0, .nilFunc, rfl, .inl rfl⟩, by rw [HR.out]; rfl, hend _ HB.out _ _ _ _ _ _ _ _ _ _⟩
    · have HR : Hid (pS s = (11, cmd0 0)) := by show pS s = _; rw [pS, if_neg h15, if_pos hall]
      have hn0 := hnl none 0 0
      clear hnl
      obtain ⟨⟨y0, y1, y2⟩, ⟨x0, x1, x2, x3, x4, x5, x6⟩, q0, q1⟩ := (hR1).facts
      have HB : Hid (Below w.heap.size w _) := hB1
      go_wp2_with fail
      exact bodyPost_ret (v := .tuple #[.agg #[.int .i64 0, .slice none 0 0, .nilFunc], .agg #[.int .i64 0, .int .i64 0, .string { data := #[] }, .string { data := #[] }, .int .i64 0, .int .i64 0, .string { data := #[] }], .int .i64 11]) (by simp [results, Tryz.results11, go_sem, y0, y1, y2, x0, x1, x2, x3, x4, x5, x6]) rfl ⟨_, ⟨0, none, 0, 0, .nilFunc, rfl, .inl rfl⟩, by rw [HR.out]; rfl, hend _ HB.out _ _ _ _ _ _ _ _ _ _⟩

end Go.Proofs.YtempdkoflofglaaGreatDoor
