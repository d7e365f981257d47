import Derived.Test.YtbadedhliplkeaaDw2
import Derived.Deep.RegionHeld3
import Derived.Deep.CutBlock
import Derived.Laws.BytesString
namespace Go.Proofs.Ytbadedhliplkeaa
open Go.RowKit
set_option linter.unusedVariables false

/-- the draw, with names for what it gives -/
theorem draw_y (a : Option Addr) (c : Nat) (zs : List Int) (B : Int) (D : List Int) (ps : List (Int × List Int)) (q : Int) (ds : List Int) (w : World) (hv : Bts w (.slice a zs.length c) zs) (hl : zs.length ≤ 1048576) (hr : (dwR zs).1 = (B, D, ps)) (hq : dwQ zs = q) (hd : dwD zs = ds) :
    Calls Try.prog 17 #[.slice a zs.length c] w fun e w' => ∃ da dc ca cc lo hi ea ec, ∃ S : Nat → Prop, e = .returned (.tuple #[.agg #[.int .i64 B, .slice da D.length dc, .slice ca ps.length cc], .int .i64 q, .slice ea ds.length ec]) ∧ D.length ≤ dc ∧ Own8 lo hi w' (.slice da D.length dc) D ∧ PRow S w' (.slice ca ps.length cc) ps ∧ (∀ q, S q → w.heap.size ≤ q ∧ ¬ (lo ≤ q ∧ q < hi)) ∧ w.heap.size ≤ lo ∧ Bts w' (.slice ea ds.length ec) ds ∧ Below w.heap.size w w' := by
  refine (drawWrite_x a c zs w hv hl).mono fun e w' hh => ?_
  obtain ⟨v, rfl, da, dc, ca, cc, lo, hi, ea, ec, S, rfl, h1, h2, h3, h4, h5, h6, h7⟩ := hh
  simp only [hr, hq, hd] at h1 h2 h3 h6 ⊢
  exact ⟨da, dc, ca, cc, lo, hi, ea, ec, S, rfl, h1, h2, h3, h4, h5, h6, h7⟩

theorem implWrite_y (q : Int) (ea : Option Addr) (ec : Nat) (ds : List Int) (B : Int) (da ca : Option Addr) (dc cc : Nat) (zs : List Int) (ps : List (Int × List Int)) (w : World) (hR : DRead w (.agg #[.int .i64 B, .slice da zs.length dc, .slice ca ps.length cc]) B zs ps) (hzl : zs.length ≤ 1048576) (hpl : ps.length ≤ 1048576) (hel : ∀ i, (ps.getD i (0, [])).2.length ≤ 1048576) (hv : Bts w (.slice ea ds.length ec) ds) (hd : ds.length ≤ 1048576) :
    Calls Try.prog 19 #[.agg #[.int .i64 B, .slice da zs.length dc, .slice ca ps.length cc], .int .i64 q, .slice ea ds.length ec] w fun e w' => ∃ xa xc ya yc, e = .returned (.tuple #[.agg #[.int .i64 (gB B zs ps), .slice xa (gZ B zs ps).length xc, .slice ya (gP q ds B zs ps).length yc], .int .i64 (gC q ds B zs ps)]) ∧ DOwnX w.heap.size w'.heap.size w' (.agg #[.int .i64 (gB B zs ps), .slice xa (gZ B zs ps).length xc, .slice ya (gP q ds B zs ps).length yc]) (gB B zs ps) (gZ B zs ps) (gP q ds B zs ps) ∧ Below w.heap.size w w' ∧ (gZ B zs ps).length ≤ xc := by
  cases hok : dOK B zs ps with
  | true =>
    simp only [gB, gZ, gP, gC, hok, if_true]
    exact implWrite_c q ea ec ds B da ca dc cc zs ps w hR hok hv hd
  | false =>
    refine (implWrite_no _ _ B da ca dc cc zs ps w hR hzl hpl hel hok).mono fun e w' hq => ?_
    obtain ⟨rfl, h2⟩ := hq
    simp only [gB, gZ, gP, gC, hok]
    exact ⟨none, 0, none, 0, rfl, DOwnX.none h2.size, h2, by simp⟩

set_option maxRecDepth 100000 in
set_option maxHeartbeats 40000000 in
theorem reads_all (a0 a1 : Option Addr) (c0 c1 : Nat) (zs ms : List Int) (B : Int) (D : List Int) (ps : List (Int × List Int)) (q : Int) (ds : List Int) (w : World) (hv : Bts w (.slice a0 zs.length c0) zs) (hvm : Bts w (.slice a1 ms.length c1) ms) (hl : zs.length ≤ 1048576) (hml : ms.length ≤ 1048576) (hr : (dwR zs).1 = (B, D, ps)) (hq : dwQ zs = q) (hd : dwD zs = ds) (hD : D.length ≤ 65536) (hpl : ps.length ≤ 2049) (hel : ∀ j, (ps.getD j (0, [])).2.length ≤ 128) (hdl : ds.length ≤ 129) :
    Calls Try.prog 4 #[.slice a0 zs.length c0, .slice a1 ms.length c1] w fun e w' => e = .returned (.bool true) ∧ Below w.heap.size w w' := by
  have HDR : Hid (∀ w : World, Bts w (.slice a0 zs.length c0) zs → Calls Try.prog 17 #[.slice a0 zs.length c0] w fun e w' => ∃ da dc ca cc lo hi ea ec, ∃ S : Nat → Prop, e = .returned (.tuple #[.agg #[.int .i64 B, .slice da D.length dc, .slice ca ps.length cc], .int .i64 q, .slice ea ds.length ec]) ∧ D.length ≤ dc ∧ Own8 lo hi w' (.slice da D.length dc) D ∧ PRow S w' (.slice ca ps.length cc) ps ∧ (∀ q, S q → w.heap.size ≤ q ∧ ¬ (lo ≤ q ∧ q < hi)) ∧ w.heap.size ≤ lo ∧ Bts w' (.slice ea ds.length ec) ds ∧ Below w.heap.size w w') := fun w hv => draw_y a0 c0 zs B D ps q ds w hv hl hr hq hd
  have HEL : Hid (∀ i, (ps.getD i (0, [])).2.length ≤ 1048576) := fun i => by have := hel i; omega
  clear hr hq hd
  go_enter Try.func4, Try.ntmps4
  go_wp2_with (go_at_call 17; refine (HDR.out w hv).mono ?_)
  rintro e w1 ⟨da, dc, ca, cc, lo, hi, ea, ec, S, rfl, hdc, hO, hP, hS, hlo, hE, hb1⟩
  have hR : DRead w1 (.agg #[.int .i64 B, .slice da D.length dc, .slice ca ps.length cc]) B D ps := ⟨_, _, _, _, rfl, hO.bts, hP.own.read⟩
  have hbA := belowA w1 (.cells #[.int .i64 B, .slice da D.length dc, .slice ca ps.length cc] 25)
  have hR1 := hR.below hbA
  have hE1 := hE.below hbA
  have hX := Box3.made w1 (.int .i64 B) (.slice da D.length dc) (.slice ca ps.length cc) 25 _ rfl
  have hB1 := hb1.trans (hbA.mono hb1.size)
  clear hR hO hP hS
  go_wp2_with (go_at_call 18; refine (specWrite_any q ea ec ds B da ca dc cc D ps _ hR1 hdc (by omega) (by omega) HEL.out hE1 (by omega)).mono ?_)
  rintro e w2 ⟨xa, xc, ya, yc, rfl, _, hb2⟩
  obtain ⟨W3, hW3⟩ : ∃ W3, W3 = w2.alloc (.cells #[.int .i64 (gB B D ps), .slice xa (gZ B D ps).length xc, .slice ya (gP q ds B D ps).length yc] 25) := ⟨_, rfl⟩
  have hb3 : Below w2.heap.size w2 W3 := by rw [hW3]; exact belowA _ _
  have hR3 := (hR1.below hb2).below hb3
  have hE3 := (hE1.below hb2).below hb3
  have hX3 := (hX.below hb2).below hb3
  have hB3 := (hB1.trans (hb2.mono hB1.size)).trans (hb3.mono (by have := hB1.size; have := hb2.size; omega))
  have HE0 : Hid (Bts w1 (.slice ea ds.length ec) ds) := hE
  have HB01 : Hid (Below w.heap.size w w1) := hb1
  have HB13 : Hid (Below w1.heap.size w1 W3) := (hbA.trans (hb2.mono hbA.size)).trans (hb3.mono (Nat.le_trans hbA.size hb2.size))
  clear hR1 hE1 hX hB1 hb2 hb3 hb1 hE hbA
  go_wp2_with fail
  rw [← hW3]
  clear hW3
  obtain ⟨x0, x1, x2⟩ := hX3.cells
  go_cut [10, 11] (fun s10 s11 wx => ∃ b10 xa xc ya yc, s10 = .pointer (some ⟨b10, 0, none⟩) ∧ s11 = .int .i64 (gC q ds B D ps) ∧ EAt W3 wx b10 (gB B D ps) xa xc ya yc (gZ B D ps) (gP q ds B D ps) ∧ (gZ B D ps).length ≤ xc)
  case first => as_aux_lemma =>
    have HR : Hid (DRead W3.drew (.agg #[.int .i64 B, .slice da D.length dc, .slice ca ps.length cc]) B D ps) := hR3.below (Below.refl _ _).drew
    have HE : Hid (Bts W3.drew (.slice ea ds.length ec) ds) := hE3.below (Below.refl _ _).drew
    have hlt := hX3.lt
    have HX : Hid (Box3 W3.drew w1.heap.size (.int .i64 B) (.slice da D.length dc) (.slice ca ps.length cc) 25) := hX3
    clear hR3 hE3 hX3 hB3 HDR hv hvm hlo
    go_region_held3 (fun w' => w'.cell? ⟨w1.heap.size, 0, none⟩ = some (.int .i64 B) ∧ w'.cell? ⟨w1.heap.size, 1, none⟩ = some (.slice da D.length dc) ∧ w'.cell? ⟨w1.heap.size, 2, none⟩ = some (.slice ca ps.length cc)) (first | go_keep | assumption | exact cells3_far (by assumption) (by omega) _ _ _)
      (first
        | (go_at_call 20; refine (copyBytes_any _ ds _ (by first | exact HE.out | exact HE.out.below (belowA _ _)) (by omega)).mono ?_; rintro e w4 ⟨fa, fc, g4, rfl, f1, f2, f3, f4⟩; have hs4 : W3.heap.size ≤ w4.heap.size := (by first | exact f4.size | exact Nat.le_trans (by simp) f4.size); have hk4 := (by first | exact (HX.out.below f4).cells | exact ((HX.out.below (belowA _ _)).below f4).cells : w4.cell? ⟨w1.heap.size, 0, none⟩ = some (.int .i64 B) ∧ w4.cell? ⟨w1.heap.size, 1, none⟩ = some (.slice da D.length dc) ∧ w4.cell? ⟨w1.heap.size, 2, none⟩ = some (.slice ca ps.length cc)))
        | (go_at_call 19; refine (implWrite_y q _ _ ds B da ca dc cc D ps _ (HR.out.below f4) (by omega) (by omega) HEL.out (f3.bts) (by omega)).mono ?_; rintro e w5 ⟨xa, xc, ya, yc, rfl, k1, k2, k3⟩; have hk5 : w5.cell? ⟨w1.heap.size, 0, none⟩ = some (.int .i64 B) ∧ w5.cell? ⟨w1.heap.size, 1, none⟩ = some (.slice da D.length dc) ∧ w5.cell? ⟨w1.heap.size, 2, none⟩ = some (.slice ca ps.length cc) := ((HX.out.below f4).below k2).cells)
        | (go_at_call 19; refine (implWrite_y q _ _ ds B da ca dc cc D ps _ ((HR.out.below (belowA _ _)).below f4) (by omega) (by omega) HEL.out (f3.bts) (by omega)).mono ?_; rintro e w5 ⟨xa, xc, ya, yc, rfl, k1, k2, k3⟩; have hk5 : w5.cell? ⟨w1.heap.size, 0, none⟩ = some (.int .i64 B) ∧ w5.cell? ⟨w1.heap.size, 1, none⟩ = some (.slice da D.length dc) ∧ w5.cell? ⟨w1.heap.size, 2, none⟩ = some (.slice ca ps.length cc) := (((HX.out.below (belowA _ _)).below f4).below k2).cells; have hZ5 : Box3 w5 W3.heap.size (.int .i64 0) (.slice none 0 0) (.slice none 0 0) 25 := ((Box3.made W3.drew (.int .i64 0) (.slice none 0 0) (.slice none 0 0) 25 W3.heap.size rfl).below f4).below k2; obtain ⟨z0, z1, z2⟩ := hZ5.cells; have hfz := hZ5.free)
        | (go_at_call 19; refine (implWrite_y q _ _ ds B da ca dc cc D ps _ ((HR.out.below f4).below (belowA _ _)) (by omega) (by omega) HEL.out (f3.bts.below (belowA _ _)) (by omega)).mono ?_; rintro e w5 ⟨xa, xc, ya, yc, rfl, k1, k2, k3⟩; have hk5 : w5.cell? ⟨w1.heap.size, 0, none⟩ = some (.int .i64 B) ∧ w5.cell? ⟨w1.heap.size, 1, none⟩ = some (.slice da D.length dc) ∧ w5.cell? ⟨w1.heap.size, 2, none⟩ = some (.slice ca ps.length cc) := (((HX.out.below f4).below (belowA _ _)).below k2).cells; have hZ5 : Box3 w5 w4.heap.size (.int .i64 0) (.slice none 0 0) (.slice none 0 0) 25 := (Box3.made w4 (.int .i64 0) (.slice none 0 0) (.slice none 0 0) 25 w4.heap.size rfl).below k2; obtain ⟨z0, z1, z2⟩ := hZ5.cells; have hfz := hZ5.free))
    · have hB4 : Below W3.heap.size W3 w4 := (Below.refl _ _).drew.trans f4
      have hB5 : Below W3.heap.size W3 w5 := hB4.trans (k2.mono hB4.size)
      go_wp2_with fail
      go_meet
      case rel => exact ⟨_, xa, xc, ya, yc, rfl, rfl, EAt.made k1 hs4 hB5, k3⟩
    · have hB4 : Below W3.heap.size W3 w4 := (Below.refl _ _).drew.trans f4
      have hB5 : Below W3.heap.size W3 w5 := (hB4.trans ((belowA w4 _).mono hB4.size)).trans (k2.mono (by simp; omega))
      go_wp2_with fail
      go_meet
      case rel => exact ⟨_, xa, xc, ya, yc, rfl, rfl, EAt.stored k1 hZ5 (by simp) hs4 hB5, k3⟩
    · have hB4 : Below W3.heap.size W3 w4 := ((Below.refl _ _).drew.trans (belowA W3.drew _)).trans (f4.mono (by simp))
      have hB5 : Below W3.heap.size W3 w5 := hB4.trans (k2.mono hB4.size)
      have hl5 : W3.heap.size < w4.heap.size := by have := f4.size; simp at this; omega
      go_wp2_with fail
      go_meet
      case rel => exact ⟨_, xa, xc, ya, yc, rfl, rfl, EAt.stored k1 hZ5 hl5 (Nat.le_refl _) hB5, k3⟩
  case rest =>
    obtain ⟨b10, xa, xc, ya, yc, rfl, rfl, hEA, hcap⟩ := hcut
    clear x0 x1 x2
    cases hok : dOK B D ps with
    | false =>
      have e1 : gB B D ps = 0 := by simp [gB, hok]
      have e2 : gZ B D ps = [] := by simp [gZ, hok]
      have e3 : gP q ds B D ps = [] := by simp [gP, hok]
      have e4 : gC q ds B D ps = 1 := by simp [gC, hok]
      rw [e1, e2, e3] at hEA
      rw [e4]
      obtain ⟨y0, y1, y2⟩ := hEA.box.cells
      have hBe := hB3.trans (hEA.bel.mono hB3.size)
      clear HDR hcap hEA hR3 hE3 hX3 HEL
      go_wp2_with fail
      go_ret
      exact ⟨rfl, hBe⟩
    | true =>
      have e1 : gB B D ps = B := by simp [gB, hok]
      have e2 : gZ B D ps = D := by simp [gZ, hok]
      have e3 : gP q ds B D ps = wP B ps q ds := by simp [gP, hok]
      have e4 : gC q ds B D ps = wC B ps.length q ds.length := by simp [gC, hok]
      rw [e1, e2, e3] at hEA
      rw [e2] at hcap
      rw [e4]
      clear e1 e2 e3 e4
      have hc1 := wC_ne1 B ps.length q ds.length
      have hc2 : ((wC B ps.length q ds.length) != (wC B ps.length q ds.length)) = false := by simp
      have HWC : Hid _ := wP_cases B ps q ds
      have HAP : Hid (wC B ps.length q ds.length = 0 → aZ B D ps [(1, q, ds), (2, 0, [])] 2 = settle D (wP B ps q ds) ∧ aP B D ps [(1, q, ds), (2, 0, [])] 2 = [] ∧ aC B D ps [(1, q, ds), (2, 0, [])] 2 = 0) := fun h => by rw [show wP B ps q ds = ps ++ [(q, ds)] from if_pos h]; exact ap_two hok h
      have hokE := dOK_write hok q ds
      have HOK : Hid (dOK B D (wP B ps q ds) = true) := hokE
      have hpl2 : ps.length ≤ 2048 := (dOK_parts hok).2.2.2.1
      have HRUN : Hid (dOK B D ps = true) := hok
      clear hok hokE
      generalize wC B ps.length q ds.length = cw at *
      generalize wP B ps q ds = ps2 at *
      have hBe := hB3.trans (hEA.bel.mono hB3.size)
      have hvE := hv.below hBe
      have hmE := hvm.below hBe
      have hw1 := hX3.lt
      have hX6 := hX3.below hEA.bel
      have hbE := HB13.out.trans (hEA.bel.mono HB13.out.size)
      obtain ⟨wE, hwE⟩ : ∃ wE, wE = wc := ⟨_, rfl⟩
      subst hwE
      clear hR3 hE3 hX3
      go_wp2_with (go_at_call 17; refine (HDR.out wE hvE).mono ?_)
      rintro e w6 ⟨da2, dc2, ca2, cc2, lo2, hi2, ea2, ec2, S2, rfl, hdc2, hO2, hP2, hS2, hlo2, _, hb6⟩
      have hX7 := hX6.below hb6
      have hsE := hEA.bel.size
      have hsz6 := hb6.size
      have hs01 := HB01.out.size
      obtain ⟨v0, v1, v2⟩ := hX7.cells
      have hvf := hX7.free
      obtain ⟨hX8, hU8⟩ := hX7.stored (.int .i64 B) (.slice da2 D.length dc2) (.slice ca2 ps.length cc2)
      obtain ⟨W7, hW7⟩ : ∃ W7, W7 = ((w6.setCell ⟨w1.heap.size, 0, none⟩ (.int .i64 B)).setCell ⟨w1.heap.size, 1, none⟩ (.slice da2 D.length dc2)).setCell ⟨w1.heap.size, 2, none⟩ (.slice ca2 ps.length cc2) := ⟨_, rfl⟩
      rw [← hW7] at hX8 hU8
      have hsz7 := hU8.size
      have hO7 := hO2.upd hU8 (.inr (by omega))
      have hP7 : PRow S2 W7 (.slice ca2 ps.length cc2) ps := hP2.kept hU8.size (fun b b1 b2 => hU8.block b b2 (by have := (hS2 b b1).1; omega))
      have hb17 : Below w1.heap.size w1 W7 := (hbE.trans (hb6.mono hbE.size)).trans (hU8.below (Nat.le_refl _) (by omega))
      have hB7 : Below w.heap.size w W7 := HB01.out.trans (hb17.mono hs01)
      have HK7 : Hid (∀ k, W3.heap.size ≤ k → k < wE.heap.size → W7.heap[k]? = wE.heap[k]?) := fun k k1 k2 => (hU8.block k (by omega) (by omega)).trans (hb6.block k k2)
      clear hO2 hP2 hX6 hX7 hb6 hU8 hbE hvE
      go_upto_if 83 with fail
      rw [← hW7]
      clear hW7 v0 v1 v2 hvf
      go_cut [12] (fun s12 wx => ∃ va vc, s12 = .slice va ps2.length vc ∧ PRead wx (.slice va ps2.length vc) ps2 ∧ PRead wx (.slice ca2 ps.length cc2) ps ∧ Frm S2 W7 wx)
      case first => as_aux_lemma =>
        rcases HWC.out with ⟨rfl, rfl⟩ | ⟨h0, rfl⟩
        · have hlen : ps.length < 1048576 := by omega
          have hSL : ∀ k, S2 k → w1.heap.size ≤ k := fun k hk => by have := (hS2 k hk).1; omega
          have hE0 := HE0.out
          go_wp2_with (at_builtin; refine wpList_appendQ rfl _ _ rfl q ds hP7 hSL hE0 hb17 rfl rfl hlen ?_; intro va vc w8 hp1 hp2 hf8)
          go_meet
          refine ⟨va, vc, ?_, ?_, hp2, hf8⟩
          · simp
          · simpa using hp1
        · have h0' : (cw == 0) = false := by simpa using h0
          go_wp2_with fail
          go_meet
          exact ⟨ca2, cc2, rfl, hP7.own.read, hP7.own.read, Frm.same _ _⟩
      case rest =>
        obtain ⟨va, vc, rfl, hpC, hpD, hf8⟩ := hcut
        obtain ⟨w8, hw8⟩ : ∃ w8, w8 = wc := ⟨_, rfl⟩
        subst hw8
        have hsz8 := hf8.size
        have hX8' : Box3 w8 w1.heap.size (.int .i64 B) (.slice da2 D.length dc2) (.slice ca2 ps.length cc2) 25 := (hf8.block _ hX8.lt (fun e => by have := (hS2 _ e).1; omega)).trans hX8
        have hO8 := hO7.kept hf8.size (fun b b1 b2 b3 => hf8.block b b3 (fun e => (hS2 b e).2 ⟨b1, b2⟩))
        have hB8 : Below w.heap.size w w8 := hB7.trans (hf8.below hB7.size (fun k hk => by have := (hS2 k hk).1; omega))
        have hE8 : EAt w w8 b10 B xa xc ya yc D ps2 := hEA.keptF (V := w) (by omega) (fun k k1 k2 => (hf8.block k (by omega) (fun e => by have := (hS2 k e).1; omega)).trans (HK7.out k k1 k2)) hB8 (by omega)
        have hD8 : DRead w8 (.agg #[.int .i64 B, .slice da2 D.length dc2, .slice ca2 ps.length cc2]) B D ps := ⟨_, _, _, _, rfl, hO8.bts, hpD⟩
        have hdat8 : Bts w8 (.slice ea ds.length ec) ds := HE0.out.below (hb17.trans (hf8.below (by omega) (fun k hk => by have := (hS2 k hk).1; omega)))
        have hm8 : Bts w8 (.slice a1 ms.length c1) ms := hvm.below hB8
        clear hX8 hO7 hP7 hS2 hb17 hB7 HK7 hpD hO8 hEA hmE hf8
        obtain ⟨y0, y1, y2⟩ := hE8.box.cells
        go_wp2_with (go_at_call 21; refine (implFlush_c B xa ya xc yc D ps2 w8 hE8.read HOK.out).mono ?_)
        rintro e w9 ⟨fa, fc, rfl, hF9, hb9, hfc⟩
        have hs9 := hb9.size
        have hs08 := hB8.size
        have hB9 := hB8.trans (hb9.mono hs08)
        obtain ⟨W10, hW10⟩ : ∃ W10, W10 = w9.alloc (.cells #[.int .i64 B, .slice fa (settle D ps2).length fc, .slice none 0 0] 25) := ⟨_, rfl⟩
        have hF10 : EAt w W10 w9.heap.size B fa fc none 0 (settle D ps2) [] := by rw [hW10]; exact EAt.made (DOwnX.bare hF9) hs08 hB9
        have hb10 : Below w8.heap.size w8 W10 := hb9.trans (by rw [hW10]; exact (belowA w9 _).mono hs9)
        have hE10 := hE8.below hb10
        have hX10 := hX8'.below hb10
        have hD10 := hD8.below hb10
        have hdat10 := hdat8.below hb10
        have hm10 := hm8.below hb10
        have hC10 := hpC.below hb10
        clear hE8 hX8' hD8 hdat8 hm8 hpC hb10 hF9 hB9 y0 y1 y2
        go_wp2_with fail
        rw [← hW10]
        clear hW10
        obtain ⟨y0, y1, y2⟩ := hE10.box.cells
        go_cut [15, 16] (fun s15 s16 wx => ∃ b15 ga gc, s15 = .pointer (some ⟨b15, 0, none⟩) ∧ s16 = .int .i64 0 ∧ EAt W10 wx b15 B ga gc none 0 (settle D (keptTo false ms ps2 ps2.length)) [] ∧ (settle D (keptTo false ms ps2 ps2.length)).length ≤ gc)
        case first => as_aux_lemma =>
          have HR : Hid (DRead W10.drew (.agg #[.int .i64 B, .slice xa D.length xc, .slice ya ps2.length yc]) B D ps2) := hE10.read.below (Below.refl _ _).drew
          have HM : Hid (Bts W10.drew (.slice a1 ms.length c1) ms) := hm10.below (Below.refl _ _).drew
          have hlt := hE10.box.lt
          have HX : Hid (Box3 W10.drew b10 (.int .i64 B) (.slice xa D.length xc) (.slice ya ps2.length yc) 25) := hE10.box
          clear hE10 hX10 hD10 hdat10 hm10 hC10 hF10 HDR hv hvm
          go_region_held3 (fun w' => w'.cell? ⟨b10, 0, none⟩ = some (.int .i64 B) ∧ w'.cell? ⟨b10, 1, none⟩ = some (.slice xa D.length xc) ∧ w'.cell? ⟨b10, 2, none⟩ = some (.slice ya ps2.length yc)) (first | go_keep | assumption | exact cells3_far (by assumption) (by omega) _ _ _)
            (first
            | (go_at_call 20; refine (copyBytes_any _ ms _ (by first | exact HM.out | exact HM.out.below (belowA _ _)) hml).mono ?_; rintro e w11 ⟨ka, kc, g11, rfl, f1, f2, f3, f4⟩; have hs11 : W10.heap.size ≤ w11.heap.size := (by first | exact f4.size | exact Nat.le_trans (by simp) f4.size); have hk11 := (by first | exact (HX.out.below f4).cells | exact ((HX.out.below (belowA _ _)).below f4).cells : w11.cell? ⟨b10, 0, none⟩ = some (.int .i64 B) ∧ w11.cell? ⟨b10, 1, none⟩ = some (.slice xa D.length xc) ∧ w11.cell? ⟨b10, 2, none⟩ = some (.slice ya ps2.length yc)))
            | (go_at_call 22; refine (implCrash_c ms _ _ B xa ya xc yc D ps2 _ (HR.out.below f4) HOK.out (f3.bts) hml).mono ?_; rintro e w12 ⟨ga, gc, rfl, k1, k2, k3⟩; have hk12 : w12.cell? ⟨b10, 0, none⟩ = some (.int .i64 B) ∧ w12.cell? ⟨b10, 1, none⟩ = some (.slice xa D.length xc) ∧ w12.cell? ⟨b10, 2, none⟩ = some (.slice ya ps2.length yc) := ((HX.out.below f4).below k2).cells)
            | (go_at_call 22; refine (implCrash_c ms _ _ B xa ya xc yc D ps2 _ ((HR.out.below (belowA _ _)).below f4) HOK.out (f3.bts) hml).mono ?_; rintro e w12 ⟨ga, gc, rfl, k1, k2, k3⟩; have hk12 : w12.cell? ⟨b10, 0, none⟩ = some (.int .i64 B) ∧ w12.cell? ⟨b10, 1, none⟩ = some (.slice xa D.length xc) ∧ w12.cell? ⟨b10, 2, none⟩ = some (.slice ya ps2.length yc) := (((HX.out.below (belowA _ _)).below f4).below k2).cells; have hZ12 : Box3 w12 W10.heap.size (.int .i64 0) (.slice none 0 0) (.slice none 0 0) 25 := ((Box3.made W10.drew (.int .i64 0) (.slice none 0 0) (.slice none 0 0) 25 W10.heap.size rfl).below f4).below k2; obtain ⟨z0, z1, z2⟩ := hZ12.cells; have hfz := hZ12.free)
            | (go_at_call 22; refine (implCrash_c ms _ _ B xa ya xc yc D ps2 _ ((HR.out.below f4).below (belowA _ _)) HOK.out (f3.bts.below (belowA _ _)) hml).mono ?_; rintro e w12 ⟨ga, gc, rfl, k1, k2, k3⟩; have hk12 : w12.cell? ⟨b10, 0, none⟩ = some (.int .i64 B) ∧ w12.cell? ⟨b10, 1, none⟩ = some (.slice xa D.length xc) ∧ w12.cell? ⟨b10, 2, none⟩ = some (.slice ya ps2.length yc) := (((HX.out.below f4).below (belowA _ _)).below k2).cells; have hZ12 : Box3 w12 w11.heap.size (.int .i64 0) (.slice none 0 0) (.slice none 0 0) 25 := (Box3.made w11 (.int .i64 0) (.slice none 0 0) (.slice none 0 0) 25 w11.heap.size rfl).below k2; obtain ⟨z0, z1, z2⟩ := hZ12.cells; have hfz := hZ12.free))
          · have hB11 : Below W10.heap.size W10 w11 := (Below.refl _ _).drew.trans f4
            have hB12 : Below W10.heap.size W10 w12 := hB11.trans (k2.mono hB11.size)
            go_wp2_with fail
            go_meet
            exact ⟨_, ga, gc, rfl, rfl, EAt.made (DOwnX.bare k1) hs11 hB12, k3⟩
          · have hB11 : Below W10.heap.size W10 w11 := (Below.refl _ _).drew.trans f4
            have hB12 : Below W10.heap.size W10 w12 := (hB11.trans ((belowA w11 _).mono hB11.size)).trans (k2.mono (by simp; omega))
            go_wp2_with fail
            go_meet
            exact ⟨_, ga, gc, rfl, rfl, EAt.stored (DOwnX.bare k1) hZ12 (by simp) hs11 hB12, k3⟩
          · have hB11 : Below W10.heap.size W10 w11 := ((Below.refl _ _).drew.trans (belowA W10.drew _)).trans (f4.mono (by simp))
            have hB12 : Below W10.heap.size W10 w12 := hB11.trans (k2.mono hB11.size)
            have hl11 : W10.heap.size < w11.heap.size := by have := f4.size; simp at this; omega
            go_wp2_with fail
            go_meet
            exact ⟨_, ga, gc, rfl, rfl, EAt.stored (DOwnX.bare k1) hZ12 hl11 (Nat.le_refl _) hB12, k3⟩
        case rest =>
          obtain ⟨b15, ga, gc, rfl, rfl, hG, hgc⟩ := hcut
          obtain ⟨W12, hW12⟩ : ∃ W12, W12 = wc := ⟨_, rfl⟩
          subst hW12
          have hE12 := hE10.below hG.bel
          have hF12 := hF10.below hG.bel
          have hX12 := hX10.below hG.bel
          have hD12 := hD10.below hG.bel
          have hdat12 := hdat10.below hG.bel
          have hm12 := hm10.below hG.bel
          have hC12 := hC10.below hG.bel
          clear hE10 hF10 hX10 hD10 hdat10 hm10 hC10 y0 y1 y2 HDR hv hvm
          obtain ⟨y0, y1, y2⟩ := hE12.box.cells
          obtain ⟨f0, f1, f2⟩ := hF12.box.cells
          obtain ⟨g0, g1, g2⟩ := hG.box.cells
          obtain ⟨d0, d1, d2⟩ := hX12.cells
          have hll : ((ps2.length : Int) != (ps2.length : Int)) = false := by simp
          obtain ⟨n, rfl⟩ : ∃ n : Nat, B = n := ⟨B.toNat, by have := (dOK_parts HOK.out).1; omega⟩
          go_upto_block 0 with fail
          go_cut [] (fun wx => Below W12.heap.size W12 wx)
          case first =>
            go_wp2_with fail
            have HND : Hid ((D.length : Int) = (n : Int) * 128) := (dOK_parts HOK.out).2.2.1
            have HPK : Hid (∀ i, i < ps2.length → (ps2.getD i (0, [])).2.length = 128) := fun i hi => (of_decide_eq_true ((dOK_parts HOK.out).2.2.2.2 i hi)).2.2
            have HEL2 : Hid (∀ i, (ps2.getD i (0, [])).2.length ≤ 1048576) := fun i => by
              by_cases hi : i < ps2.length
              · rw [HPK.out i hi]; omega
              · simp [hi]
            have HL1 : Hid ((settle D ps2).length = D.length) := by have h := settle_length D ps2 (fits_of_ok HOK.out) ps2.length (Nat.le_refl _); rwa [List.take_length] at h
            have HL2 : Hid ((settle D (keptTo false ms ps2 ps2.length)).length = D.length) := kept_len false ms n D ps2 HOK.out
            have hn512 : n ≤ 512 := by have := (dOK_parts HOK.out).2.1; omega
            have hn8 : 8 ≤ n := by have := (dOK_parts HOK.out).1; omega
            have hp2048 : ps2.length ≤ 2048 := (dOK_parts HOK.out).2.2.2.1
            clear y0 y1 y2 f0 f1 f2 g0 g1 g2 d0 d1 d2
            go_loopw [17] (fun b wr => ∃ k : Nat, k ≤ n ∧ b = .int .i64 k ∧ Below W12.heap.size W12 wr) (fun b _ => n - (intOf b).toNat)
            case atStart => exact ⟨0, Nat.zero_le _, rfl, Below.refl _ _⟩
            case round =>
              obtain ⟨k, hk, rfl, hbw⟩ := hrel
              obtain ⟨d0, d1, d2⟩ := (hX12.below hbw).cells
              by_cases hlt : k < n
              · obtain ⟨_, _, _, _, he, hdb, _⟩ := id hD12
                simp only [Value.agg.injEq, Array.mk.injEq, List.cons.injEq, Value.slice.injEq, true_and, and_true] at he
                obtain ⟨⟨rfl, rfl⟩, rfl, rfl⟩ := he
                obtain ⟨_, _, he, hdc⟩ := hdb.shape
                simp only [Value.slice.injEq, true_and] at he
                obtain ⟨rfl, rfl⟩ := he
                obtain ⟨db, doff, rfl, -⟩ := hdc (by have := HND.out; omega)
                have hcd : ((k : Int) + 1) * 128 ≤ dc2 := by have := HND.out; omega
                have hnow := fun c => row_bytes (b := k) hdb (by have := HND.out; omega) c
                have h128 : (k + 1) * 128 - k * 128 = 128 := by omega
                clear hdc
                go_wp2_with fail
                go_loop [18, 19, 20] (fun nw kp i => ∃ j : Nat, j ≤ ps2.length ∧ i = .int .i64 j ∧ (∃ a c, nw = .slice a 128 c ∧ Bts W12 (.slice a 128 c) (seenIn D k (ps2.take j))) ∧ (∃ a c, kp = .slice a 128 c ∧ Bts W12 (.slice a 128 c) (seenIn D k (keptTo false ms ps2 j)))) (fun _ _ i => ps2.length - (intOf i).toNat)
                case atStart => exact ⟨0, Nat.zero_le _, rfl, ⟨_, _, by rw [h128], hnow _⟩, ⟨_, _, by rw [h128], hnow _⟩⟩
                case round =>
                  obtain ⟨j, hj, rfl, ⟨na, nc, rfl, hbn⟩, ⟨ka, kc, rfl, hbk⟩⟩ := hrel
                  clear h128 hnow
                  by_cases hlt2 : j < ps2.length
                  · obtain ⟨_, _, he, hpc⟩ := id hC12
                    simp only [Value.slice.injEq, true_and] at he
                    obtain ⟨rfl, rfl⟩ := he
                    obtain ⟨pb, po, rfl, hcell⟩ := hpc (by omega)
                    obtain ⟨pa, pc, g1, g2, g3⟩ := hcell j hlt2
                    have hpk := HPK.out j hlt2
                    have hpbw := World.block_lt_of_cell? _ _ g1
                    rw [← hbw.cell (p := ⟨pb, po + j * 2, none⟩) hpbw] at g1
                    rw [← hbw.cell (p := ⟨pb, po + j * 2 + 1, none⟩) hpbw] at g2
                    have HN : Hid (seenIn D k (ps2.take (j + 1)) = if (ps2.getD j (0, [])).1 = k then (ps2.getD j (0, [])).2 else seenIn D k (ps2.take j)) := seenIn_take D k ps2 j hlt2
                    have HK : Hid (seenIn D k (keptTo false ms ps2 (j + 1)) = if kept false ms j = true ∧ (ps2.getD j (0, [])).1 = k then (ps2.getD j (0, [])).2 else seenIn D k (keptTo false ms ps2 j)) := kept_fold D k ms ps2 j
                    clear hcell hpc
                    generalize ps2.getD j (0, []) = e at g1 g2 g3 hpk HN HK
                    obtain ⟨r, es⟩ := e
                    simp only at g1 g2 g3 hpk HN HK
                    rw [hpk] at g2 g3
                    by_cases hr : r = k
                    · subst hr
                      have hr' : ((k : Int) == (k : Int)) = true := by simp
                      have hb1 : Bts W12 (.slice pa 128 pc) (seenIn D k (ps2.take (j + 1))) := by rw [HN.out, if_pos rfl]; exact g3
                      have hyes : kept false ms j = true → Bts W12 (.slice pa 128 pc) (seenIn D k (keptTo false ms ps2 (j + 1))) := fun hkk => by rw [HK.out, if_pos ⟨hkk, rfl⟩]; exact g3
                      have hno : kept false ms j = false → Bts W12 (.slice ka 128 kc) (seenIn D k (keptTo false ms ps2 (j + 1))) := fun hkk => by rw [HK.out, if_neg (by simp [hkk])]; exact hbk
                      clear hbk hbn g3 HK HN hpk
                      by_cases h8 : j / 8 < ms.length
                      · have h8' : (j : Int) / 8 < (ms.length : Int) := by omega
                        obtain ⟨_, _, he, hkd⟩ := hm12.shape
                        simp only [Value.slice.injEq, true_and] at he
                        obtain ⟨rfl, rfl⟩ := he
                        obtain ⟨kb, ko, rfl, hke⟩ := hkd (by omega)
                        have hkb := hke (j / 8) h8
                        have kk : wr.cell? ⟨kb, ko + j / 8, none⟩ = some (.int .u8 (ms.getD (j / 8) 0)) := (hbw.cell (p := ⟨kb, ko + j / 8, none⟩) (World.block_lt_of_cell? _ _ hkb)).trans hkb
                        have hks := hm12.small (j / 8)
                        clear hkd hke hkb
                        have HBIT : Hid (∀ b, (bits BinOp.and IntKind.u8 ms[j / 8] (2 ^ (j % 8) % 256) != 0) = b → kept false ms j = b) := fun b hb => law_bit h8 hks hb
                        have HY : Hid _ := hyes
                        have HNO : Hid _ := hno
                        clear hyes hno
                        go_wp2_with fail
                        · go_round
                          case rel => exact ⟨j + 1, by omega, by go_num, ⟨_, _, rfl, hb1⟩, ⟨_, _, rfl, HY.out (HBIT.out _ (by assumption))⟩⟩
                          case measure => simp [intOf]; omega
                        · go_round
                          case rel => exact ⟨j + 1, by omega, by go_num, ⟨_, _, rfl, hb1⟩, ⟨_, _, rfl, HNO.out (HBIT.out _ (by assumption))⟩⟩
                          case measure => simp [intOf]; omega
                      · have h8' : ¬ (j : Int) / 8 < (ms.length : Int) := by omega
                        have hb3 := hno (bit_out h8)
                        clear hyes hno
                        go_wp2_with fail
                        go_round
                        case rel => exact ⟨j + 1, by omega, by go_num, ⟨_, _, rfl, hb1⟩, ⟨_, _, rfl, hb3⟩⟩
                        case measure => simp [intOf]; omega
                    · have hr' : (r == (k : Int)) = false := by simpa using hr
                      have hb1 : Bts W12 (.slice na 128 nc) (seenIn D k (ps2.take (j + 1))) := by rw [HN.out, if_neg hr]; exact hbn
                      have hb3 : Bts W12 (.slice ka 128 kc) (seenIn D k (keptTo false ms ps2 (j + 1))) := by rw [HK.out, if_neg (fun hh => hr hh.2)]; exact hbk
                      clear hr hbk hbn HK HN g3
                      go_wp2_with fail
                      go_round
                      case rel => exact ⟨j + 1, by omega, by go_num, ⟨_, _, rfl, hb1⟩, ⟨_, _, rfl, hb3⟩⟩
                      case measure => simp [intOf]; omega
                  · have hje : j = ps2.length := by omega
                    subst hje
                    rw [List.take_length] at hbn
                    have hq0 : ((k : Nat) : Int) < (n : Int) := by omega
                    have HS1 : Hid ((seenIn D k ps2).length = 128) := seenIn_length n k D ps2 HOK.out (by omega)
                    have HS2 : Hid ((seenIn D k (keptTo false ms ps2 ps2.length)).length = 128) := seenIn_length n k D _ (kept_ok HOK.out) (by omega)
                    have hRe := hE12.read.below hbw
                    have c1 := implRead_any n k xa ya xc yc D ps2 wr hRe hcap (by omega) (by omega) HEL2.out
                    rw [(rd_in HOK.out k hq0).1, (rd_in HOK.out k hq0).2] at c1
                    obtain ⟨y0, y1, y2⟩ := (hE12.box.below hbw).cells
                    clear hRe d0 d1 d2
                    go_wp2_with (go_at_call 23; refine c1.mono ?_)
                    first | (rintro e w13 ra rc rfl hx13 hb13) | (rintro e w13 ⟨ra, rc, rfl, hx13, hb13⟩)
                    have hB13 := hbw.trans (hb13.mono hbw.size)
                    have c2 := implRead_any n k fa none fc 0 (settle D ps2) [] w13 (hF12.read.below hB13) hfc (by rw [HL1.out]; omega) (by simp) (fun i => by simp)
                    rw [(rd_flush HOK.out k hq0).1, (rd_flush HOK.out k hq0).2] at c2
                    simp only [List.length_nil] at c2
                    obtain ⟨f0, f1, f2⟩ := (hF12.box.below hB13).cells
                    clear c1 y0 y1 y2
                    go_wp2_with (go_at_call 23; refine c2.mono ?_)
                    first | (rintro e w14 sa sc rfl hx14 hb14) | (rintro e w14 ⟨sa, sc, rfl, hx14, hb14⟩)
                    have hB14 := hB13.trans (hb14.mono hB13.size)
                    have c3 := implRead_any n k ga none gc 0 (settle D (keptTo false ms ps2 ps2.length)) [] w14 (hG.read.below hB14) hgc (by rw [HL2.out]; omega) (by simp) (fun i => by simp)
                    rw [(rd_crash HOK.out ms k hq0).1, (rd_crash HOK.out ms k hq0).2] at c3
                    simp only [List.length_nil] at c3
                    obtain ⟨g0, g1, g2⟩ := (hG.box.below hB14).cells
                    clear c2 f0 f1 f2
                    go_wp2_with (go_at_call 23; refine c3.mono ?_)
                    first | (rintro e w15 ta tc rfl hx15 hb15) | (rintro e w15 ⟨ta, tc, rfl, hx15, hb15⟩)
                    have hB15 := hB14.trans (hb15.mono hB14.size)
                    have v1 := conv_any ((hx13.bts.below hb14).below hb15) (by rw [HS1.out]; omega)
                    have v2 := conv_any (hx14.bts.below hb15) (by rw [HS1.out]; omega)
                    have v3 := conv_any hx15.bts (by rw [HS2.out]; omega)
                    have v4 := conv_any (hbn.below hB15) (by omega)
                    have v5 := conv_any (hbk.below hB15) (by omega)
                    clear c3 g0 g1 g2 hx13 hx14 hx15 hb13 hb14 hb15 hbn hbk hB13 hB14
                    by_cases h12 : (12 : Int) < (k : Int)
                    · by_cases h100 : (100 : Int) < (ps2.length : Int)
                      · go_wp2_with fail
                        go_meet
                        exact hB15
                      · go_wp2_with fail
                        go_roundw
                        case rel => exact ⟨k + 1, by omega, by go_num, hB15⟩
                        case measure => simp [intOf]; omega
                    · go_wp2_with fail
                      go_roundw
                      case rel => exact ⟨k + 1, by omega, by go_num, hB15⟩
                      case measure => simp [intOf]; omega
              · go_wp2_with fail
                go_meet
                exact hbw
          case rest =>
            have hB16 := hcut
            obtain ⟨w16, hw16⟩ : ∃ w16, w16 = wc := ⟨_, rfl⟩
            subst hw16
            have hBw : Below w.heap.size w w16 := (hF12.bel.trans (hB16.mono hF12.bel.size))
            clear y0 y1 y2 f0 f1 f2 g0 g1 g2 d0 d1 d2
            rcases HWC.out with ⟨rfl, -⟩ | ⟨h0, -⟩
            · obtain ⟨q1, q2, q3⟩ := HAP.out rfl
              obtain ⟨d0, d1, d2⟩ := (hX12.below hB16).cells
              have hdat16 := hdat12.below hB16
              have hD16 := hD12.below hB16
              have hF16 := hF12.below hB16
              have hA17 := belowA w16 (.cells #[.int .i64 1, .int .i64 q, .slice ea ds.length ec, .int .i64 2, .int .i64 0, .slice none 0 0] 46)
              have hss := steps2_read q hdat16
              have c4 := implApply_any 2 w16.heap.size [(1, q, ds), (2, 0, [])] n da2 ca2 dc2 cc2 D ps _ (hD16.below hA17) hdc2 (by omega) (by omega) HEL.out hss (by simp) (fun i => by
                match i with
                | 0 => simp; omega
                | 1 => simp
                | i + 2 => simp) (by omega) (by omega)
              rw [q1, q2, q3, show gB n D ps = n from by unfold gB; rw [if_pos HRUN.out]] at c4
              simp only [List.length_nil, List.length_cons] at c4
              have HF16 : Hid _ := hF16
              clear hss hD16 hdat16 hF16
              go_wp2_with (go_at_call 24; refine c4.mono ?_)
              first | (rintro e w18 ra rc sa sc rfl hO18 hb18) | (rintro e w18 ⟨ra, rc, sa, sc, rfl, hO18, hb18⟩)
              have hb18' : Below w16.heap.size w16 w18 := hA17.trans (hb18.mono (by simp))
              obtain ⟨_, _, _, _, _, _, hev, _, _, hd18, _⟩ := hO18
              simp only [Value.agg.injEq, Array.mk.injEq, List.cons.injEq, Value.slice.injEq, true_and, and_true] at hev
              obtain ⟨⟨rfl, rfl⟩, -⟩ := hev
              have hF18 := HF16.out.below hb18'
              have hBw18 := hBw.trans (hb18'.mono hBw.size)
              clear c4 hA17 hb18 d0 d1 d2
              go_upto_region 37 with fail
              obtain ⟨W19, hW19⟩ : ∃ W19, W19 = w18.alloc (.cells #[.int .i64 n, .slice ra (settle D ps2).length rc, .slice sa 0 sc] 25) := ⟨_, rfl⟩
              have hA19 : Below w18.heap.size w18 W19 := by rw [hW19]; exact belowA _ _
              have hX19 : Box3 W19 w18.heap.size (.int .i64 n) (.slice ra (settle D ps2).length rc) (.slice sa 0 sc) 25 := by rw [hW19]; exact Box3.made _ _ _ _ _ _ rfl
              rw [← hW19]
              clear hW19
              have hF19 := hF18.below hA19
              obtain ⟨h0c, h1c, h2c⟩ := hX19.cells
              obtain ⟨f0, f1, f2⟩ := hF19.box.cells
              obtain ⟨_, _, _, _, hef, hfb, _⟩ := hF19.read
              simp only [Value.agg.injEq, Array.mk.injEq, List.cons.injEq, Value.slice.injEq, true_and, and_true] at hef
              obtain ⟨⟨rfl, rfl⟩, -⟩ := hef
              have hpos : 0 < (settle D ps2).length := by
                have h := settle_length D ps2 (fits_of_ok HOK.out) ps2.length (Nat.le_refl _)
                rw [List.take_length] at h
                have h1 := (dOK_parts HOK.out).2.2.1
                have h2 := (dOK_parts HOK.out).1
                omega
              have v6 := conv_any (hd18.bts.below hA19) hpos
              have v7 := conv_any hfb hpos
              have hB19 := hBw18.trans (hA19.mono hBw18.size)
              clear hd18 hF18 hF19 hfb hX19 hX12 hD12 hC12 hE12 hF12 hG
              go_wp2_with fail
              go_ret
              exact ⟨rfl, hB19⟩
            · have h0' : (cw != 0) = true := by simpa using h0
              go_wp2_with fail
              go_ret
              exact ⟨rfl, hBw⟩

end Go.Proofs.Ytbadedhliplkeaa
