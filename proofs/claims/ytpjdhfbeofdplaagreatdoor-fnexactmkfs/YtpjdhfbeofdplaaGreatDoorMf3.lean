import Derived.Test.YtpjdhfbeofdplaaGreatDoorMf2
namespace Go.Proofs.YtpjdhfbeofdplaaGreatDoor
open Go.RowKit
set_option linter.unusedVariables false

/-- an image's length -/
def mfOK (zs : List Int) : Bool := decide (zs.length % 128 = 0 ∧ 8 ≤ zs.length / 128 ∧ zs.length / 128 ≤ 512)
/-- the image that is made, and the code -/
def mfR (zs : List Int) : List Int := if mfOK zs = true then mkD zs (zr 128) (slL (headL 1 0)) (slL (layP 0 run1 1)) (slL (su6 ((zs.length / 128 : Nat) : Int))) else []
def mfC (zs : List Int) : Int := if mfOK zs = true then 0 else 1

theorem mkD_length {zs z l t u : List Int} (hz : z.length = 128) (hl : l.length = 128) (ht : t.length = 128) (hu : u.length = 128) (hn : 512 ≤ zs.length) : (mkD zs z l t u).length = zs.length := by
  have p0 := patch_length zs 0 z hz (by omega)
  have p1 := patch_length (patch zs 0 z) 1 z hz (by omega)
  have p2 := patch_length (patch (patch zs 0 z) 1 z) 2 l hl (by omega)
  have p3 := patch_length (patch (patch (patch zs 0 z) 1 z) 2 l) 3 t ht (by omega)
  rw [mkD, patch_length _ 1 u hu (by omega)]; omega

theorem mfOK_out {zs : List Int} (h : mfOK zs = true) : zs.length % 128 = 0 ∧ 8 ≤ zs.length / 128 ∧ zs.length / 128 ≤ 512 := of_decide_eq_true h

theorem mfR_length (zs : List Int) (hl : zs.length ≤ 1048576) : (mfR zs).length ≤ 1048576 := by
  unfold mfR
  split
  · rename_i h
    have := mfOK_out h
    rw [mkD_length (zr_length 128) (slL_length leaf_len) (slL_length (layP_length 0 run1 1 (by omega))) (slL_length (suL_length _)) (by omega)]; exact hl
  · simp

theorem imageOK_any (a : Option Addr) (c : Nat) (zs : List Int) (w : World) (hl : zs.length ≤ 1048576) :
    Calls Tryz.prog 10 #[.slice a zs.length c] w fun e w' => e = .returned (.bool (mfOK zs)) ∧ w = w' := by
  by_cases h : zs.length % 128 = 0
  · have h1 : Int.tmod (zs.length : Int) 128 = 0 := by rw [Int.tmod_eq_emod_of_nonneg (by omega)]; omega
    have h2 : Int.tdiv (zs.length : Int) 128 = ((zs.length / 128 : Nat) : Int) := by rw [Int.tdiv_eq_ediv_of_nonneg (by omega)]; omega
    have h3 : inB ((zs.length / 128 : Nat) : Int) 8 512 = mfOK zs := by
      unfold inB mfOK
      rw [decide_eq_decide]; omega
    go_enter Tryz.func10, Tryz.ntmps10
    go_wp2_with fail
    refine (l1BlocksOK_any _ _).mono ?_
    rintro e w1 ⟨rfl, rfl⟩
    go_wp2
    go_ret
    exact ⟨by simp_all, rfl⟩
  · have h1 : ¬ Int.tmod (zs.length : Int) 128 = 0 := by rw [Int.tmod_eq_emod_of_nonneg (by omega)]; omega
    have h3 : mfOK zs = false := decide_eq_false (fun hh => h hh.1)
    go_enter Tryz.func10, Tryz.ntmps10
    go_wp2
    go_ret
    exact ⟨by simp_all, rfl⟩

theorem deviceOf_any (a : Option Addr) (c : Nat) (zs : List Int) (w : World) (hl : zs.length ≤ 1048576) :
    Calls Tryz.prog 13 #[.slice a zs.length c] w fun e w' => e = .returned (.agg #[.int .i64 ((zs.length / 128 : Nat) : Int), .slice a zs.length c, .slice none 0 0]) ∧ Below w.heap.size w w' := by
  have h2 : Int.tdiv (zs.length : Int) 128 = ((zs.length / 128 : Nat) : Int) := by rw [Int.tdiv_eq_ediv_of_nonneg (by omega)]; omega
  have hx := Box3.made w (.int .i64 ((zs.length : Int) / 128)) (.slice a zs.length c) (.slice none 0 0) 35 _ rfl
  have hd : (zs.length : Int) / 128 = ((zs.length / 128 : Nat) : Int) := by omega
  obtain ⟨x0, x1, x2⟩ := hx.cells
  go_enter Tryz.func13, Tryz.ntmps13
  clear hd
  go_wp2
  have hd : (zs.length : Int) / 128 = ((zs.length / 128 : Nat) : Int) := by omega
  refine bodyPost_ret (v := .agg #[.int .i64 ((zs.length : Int) / 128), .slice a zs.length c, .slice none 0 0]) (by simp [results, Tryz.results13, go_sem, x0, x1, x2]) rfl ?_
  rw [hd]
  exact ⟨rfl, belowA _ _⟩

theorem dOK_image (n : Nat) (zs : List Int) (hn : n = zs.length / 128) : dOK (n : Int) zs [] = mfOK zs := by
  unfold dOK mfOK
  rw [decide_eq_decide]
  constructor
  · rintro ⟨h1, h2, h3, -⟩; omega
  · rintro ⟨h1, h2, h3⟩; exact ⟨by omega, by omega, by omega, by simp, fun i hi => by simp at hi⟩

theorem dread_image {w : World} {a : Option Addr} {c : Nat} {zs : List Int} (hv : Bts w (.slice a zs.length c) zs) (B : Int) : DRead w (.agg #[.int .i64 B, .slice a zs.length c, .slice none 0 0]) B zs [] :=
  ⟨a, c, none, 0, rfl, hv, none, 0, rfl, fun h => by simp at h⟩

set_option maxRecDepth 100000 in
set_option maxHeartbeats 1000000 in
theorem implMk_no (a : Option Addr) (c : Nat) (zs : List Int) (w : World) (hv : Bts w (.slice a zs.length c) zs) (hl : zs.length ≤ 1048576) (h : mfOK zs = false) :
    Calls Tryz.prog 6 #[.slice a zs.length c] w fun e w' => e = .returned (.tuple #[.slice none 0 0, .int .i64 1]) ∧ Below w.heap.size w w' := by
  obtain ⟨n, hn⟩ : ∃ n, n = zs.length / 128 := ⟨_, rfl⟩
  have hdk : dOK (n : Int) zs [] = false := (dOK_image n zs hn).trans h
  have HN : Hid (n = zs.length / 128) := hn
  clear hn h
  go_enter Tryz.func6, Tryz.ntmps6
  go_wp2_with fail
  refine (deviceOf_any a c zs _ hl).mono ?_
  rintro e w1 ⟨rfl, hb1⟩
  rw [← HN.out]
  have hX := Box3.made w1 (.int .i64 n) (.slice a zs.length c) (.slice none 0 0) 35 _ rfl
  have hb2 := belowA w1 (.cells #[.int .i64 n, .slice a zs.length c, .slice none 0 0] 35)
  have hbel2 := hb1.trans (hb2.mono hb1.size)
  obtain ⟨x0, x1, x2⟩ := hX.cells
  go_wp2_with fail
  refine (valid_any n _ zs [] _ (dread_image (hv.below hbel2) n) hl (by simp) (by simp)).mono ?_
  rintro e w3 ⟨rfl, hb3⟩
  rw [hdk]
  have hbel3 := hbel2.trans (hb3.mono hbel2.size)
  clear x0 x1 x2 hb3 hX
  go_wp2
  refine bodyPost_ret (v := .tuple #[.slice none 0 0, .int .i64 1]) (by simp [results, Tryz.results6, go_sem]) rfl ?_
  exact ⟨rfl, hbel3⟩

set_option maxRecDepth 100000 in
set_option maxHeartbeats 2000000 in
theorem implMk_gen (n : Nat) (ss : List (Int × Int × List Int)) (R : List Int) (a : Option Addr) (c : Nat) (zs : List Int) (w : World) (hv : Bts w (.slice a zs.length c) zs) (hl : zs.length ≤ 1048576) (hn : n = zs.length / 128) (hdk : dOK (n : Int) zs [] = true) (hap : apS n zs [] ss ss.length = (R, [], 0)) (hs8 : ss.length ≤ 4096) (hsd : ∀ i, (ss.getD i (0, 0, [])).2.2.length ≤ 1048576)
    (hfr : ∀ w, Calls Tryz.prog 15 #[.int .i64 n] w fun e w' => ∃ sb scp, e = .returned (.slice (some ⟨sb, 0, none⟩) ss.length scp) ∧ ss.length ≤ scp ∧ SRead w' (.slice (some ⟨sb, 0, none⟩) ss.length scp) ss ∧ Below w.heap.size w w') :
    Calls Tryz.prog 6 #[.slice a zs.length c] w fun e w' => ∃ ua uc, e = .returned (.tuple #[.slice ua R.length uc, .int .i64 0]) ∧ Own8 w.heap.size w'.heap.size w' (.slice ua R.length uc) R ∧ Below w.heap.size w w' := by
  have HN : Hid (n = zs.length / 128) := hn
  have HFR : Hid _ := hfr
  have HAP : Hid (apS n zs [] ss ss.length = (R, [], 0)) := hap
  have hc1 : (-9223372036854775808 : Int) ≤ (ss.length : Int) := by omega
  have hc2 : (ss.length : Int) ≤ 9223372036854775807 := by omega
  clear hn hfr hap
  go_enter Tryz.func6, Tryz.ntmps6
  go_wp2_with fail
  refine (deviceOf_any a c zs _ hl).mono ?_
  rintro e w1 ⟨rfl, hb1⟩
  rw [← HN.out]
  have hX := Box3.made w1 (.int .i64 n) (.slice a zs.length c) (.slice none 0 0) 35 _ rfl
  have hb2 := belowA w1 (.cells #[.int .i64 n, .slice a zs.length c, .slice none 0 0] 35)
  have hbel2 := hb1.trans (hb2.mono hb1.size)
  obtain ⟨x0, x1, x2⟩ := hX.cells
  go_wp2_with fail
  refine (valid_any n _ zs [] _ (dread_image (hv.below hbel2) n) hl (by simp) (by simp)).mono ?_
  rintro e w3 ⟨rfl, hb3⟩
  rw [hdk]
  have hbel3 := hbel2.trans (hb3.mono hbel2.size)
  have hX3 := hX.below hb3
  clear x0 x1 x2 hb3 hX hb2 hbel2 hb1
  obtain ⟨x0, x1, x2⟩ := hX3.cells
  go_wp2_with fail
  refine (HFR.out _).mono ?_
  rintro e w4 ⟨sb, scp, rfl, hcp, hS, hb4⟩
  have hbel4 := hbel3.trans (hb4.mono hbel3.size)
  have hX4 := hX3.below hb4
  clear x0 x1 x2 hb4 hX3 hbel3
  obtain ⟨x0, x1, x2⟩ := hX4.cells
  go_wp2_with fail
  refine (implApply_yes ss.length sb scp ss n a none c 0 zs [] _ (dread_image (hv.below hbel4) n) hdk hS hcp (by omega) hsd hc1 hc2).mono ?_
  rintro e w5 ⟨xa, xc, ya, yc, rfl, hO, hb5⟩
  rw [HAP.out] at hO ⊢
  simp only at hO ⊢
  have hbel5 := hbel4.trans (hb5.mono hbel4.size)
  have hs4 := hbel4.size
  clear x0 x1 x2 hX4 hS hb5
  obtain ⟨da, dc, ca, cc, l1, h1, hv5, q1, q2, hO8, -⟩ := hO
  simp only [Value.agg.injEq, Array.mk.injEq, List.cons.injEq, Value.slice.injEq, true_and, and_true] at hv5
  obtain ⟨⟨rfl, rfl⟩, -, -⟩ := hv5
  have hY := Box3.made w5 (.int .i64 n) (.slice xa R.length xc) (.slice ya 0 yc) 35 _ rfl
  have hb6 := belowA w5 (.cells #[.int .i64 n, .slice xa R.length xc, .slice ya 0 yc] 35)
  have hbel6 := hbel5.trans (hb6.mono hbel5.size)
  have hO6 := (hO8.below hb6).wider (lo' := w.heap.size) (hi' := (w5.alloc (.cells #[.int .i64 n, .slice xa R.length xc, .slice ya 0 yc] 35)).heap.size) (by omega) (by have := hb6.size; omega)
  obtain ⟨x0, x1, x2⟩ := hY.cells
  clear hY hO8 hb6 hbel5
  go_wp2
  refine bodyPost_ret (v := .tuple #[.slice xa R.length xc, .int .i64 0]) (by simp [results, Tryz.results6, go_sem]) rfl ?_
  exact ⟨_, _, rfl, hO6, hbel6⟩

set_option maxRecDepth 100000 in
set_option maxHeartbeats 1000000 in
theorem specMk_no (a : Option Addr) (c : Nat) (zs : List Int) (w : World) (hl : zs.length ≤ 1048576) (h : mfOK zs = false) :
    Calls Tryz.prog 4 #[.slice a zs.length c] w fun e w' => e = .returned (.tuple #[.slice none 0 0, .int .i64 1]) ∧ w = w' := by
  go_enter Tryz.func4, Tryz.ntmps4
  go_wp2_with fail
  refine (imageOK_any a c zs _ hl).mono ?_
  rintro e w1 ⟨rfl, rfl⟩
  rw [h]
  go_wp2
  refine bodyPost_ret (v := .tuple #[.slice none 0 0, .int .i64 1]) (by simp [results, Tryz.results4, go_sem]) rfl ?_
  exact ⟨rfl, rfl⟩

set_option maxRecDepth 100000 in
set_option maxHeartbeats 1000000 in
theorem specMk_gen (n : Nat) (ss : List (Int × Int × List Int)) (R : List Int) (a : Option Addr) (c : Nat) (zs : List Int) (w : World) (hv : Bts w (.slice a zs.length c) zs) (hl : zs.length ≤ 65536) (hz0 : 0 < zs.length) (hn : n = zs.length / 128) (h : mfOK zs = true) (hRl : R.length = zs.length) (hap : lay zs ss = R) (hs8 : ss.length ≤ 4096) (hok : ∀ i, i < ss.length → ∃ q : Nat, (ss.getD i (0, 0, [])).2.1 = (q : Int) ∧ q * 128 + (ss.getD i (0, 0, [])).2.2.length ≤ zs.length)
    (hfr : ∀ w, Calls Tryz.prog 11 #[.int .i64 n] w fun e w' => ∃ sb scp, e = .returned (.tuple #[.slice (some ⟨sb, 0, none⟩) ss.length scp, .int .i64 0]) ∧ SRead w' (.slice (some ⟨sb, 0, none⟩) ss.length scp) ss ∧ Below w.heap.size w w') :
    Calls Tryz.prog 4 #[.slice a zs.length c] w fun e w' => ∃ ua uc, e = .returned (.tuple #[.slice ua R.length uc, .int .i64 0]) ∧ Own8 w.heap.size w'.heap.size w' (.slice ua R.length uc) R ∧ Below w.heap.size w w' := by
  have hdiv : (zs.length : Int) / 128 = (n : Int) := by omega
  have HFR : Hid _ := hfr
  have HRL : Hid (R.length = zs.length) := hRl
  have HAP : Hid (lay zs ss = R) := hap
  clear hn hfr hap hRl
  go_enter Tryz.func4, Tryz.ntmps4
  go_wp2_with fail
  refine (imageOK_any a c zs _ (by omega)).mono ?_
  rintro e w1 ⟨rfl, rfl⟩
  rw [h]
  go_wp2_with fail
  refine (HFR.out _).mono ?_
  rintro e w2 ⟨sb, scp, rfl, hS, hb2⟩
  clear hdiv
  go_wp2_with fail
  refine (l5Apply_any _ sb scp zs ss _ (hv.below hb2) hz0 hl hS hs8 hok).mono ?_
  rintro e w3 ⟨ua, uc, g, rfl, hg1, hg2, hO, hb3⟩
  rw [HAP.out, ← HRL.out] at hO
  rw [← HRL.out]
  have hbel := hb2.trans (hb3.mono hb2.size)
  have hs2 := hb2.size
  have hO3 := hO.wider (lo' := w.heap.size) (hi' := w3.heap.size) (by omega) (by omega)
  clear hO hb3 hS HRL HAP
  go_wp2
  refine bodyPost_ret (v := .tuple #[.slice ua R.length uc, .int .i64 0]) (by simp [results, Tryz.results4, go_sem]) rfl ?_
  exact ⟨_, _, rfl, hO3, hbel⟩

theorem mkS_el (n : Nat) {m : Nat} (hm : 512 ≤ m) (i : Nat) (hi : i < (mkS n).length) : ∃ q : Nat, ((mkS n).getD i (0, 0, [])).2.1 = (q : Int) ∧ q * 128 + ((mkS n).getD i (0, 0, [])).2.2.length ≤ m := by
  have k1 := slL_length leaf_len
  have k2 := slL_length (layP_length 0 run1 1 (by omega))
  have k3 := slL_length (suL_length (n : Int))
  have k0 := zr_length 128
  unfold mkS at *
  generalize slL (headL 1 0) = l at *
  generalize slL (layP 0 run1 1) = t at *
  generalize slL (su6 (n : Int)) = u at *
  generalize zr 128 = z at *
  rcases lt8 (show i < 8 from hi) with rfl | rfl | rfl | rfl | rfl | rfl | rfl | rfl
  · exact ⟨0, rfl, by show 0 * 128 + z.length ≤ m; omega⟩
  · exact ⟨1, rfl, by show 1 * 128 + z.length ≤ m; omega⟩
  · exact ⟨0, rfl, by show 0 * 128 + 0 ≤ m; omega⟩
  · exact ⟨2, rfl, by show 2 * 128 + l.length ≤ m; omega⟩
  · exact ⟨3, rfl, by show 3 * 128 + t.length ≤ m; omega⟩
  · exact ⟨0, rfl, by show 0 * 128 + 0 ≤ m; omega⟩
  · exact ⟨1, rfl, by show 1 * 128 + u.length ≤ m; omega⟩
  · exact ⟨0, rfl, by show 0 * 128 + 0 ≤ m; omega⟩

theorem mfR_yes {zs : List Int} (h : mfOK zs = true) : mfR zs = mkD zs (zr 128) (slL (headL 1 0)) (slL (layP 0 run1 1)) (slL (su6 ((zs.length / 128 : Nat) : Int))) := by unfold mfR; rw [if_pos h]
theorem mfC_yes {zs : List Int} (h : mfOK zs = true) : mfC zs = 0 := by unfold mfC; rw [if_pos h]
theorem mfR_no {zs : List Int} (h : mfOK zs = false) : mfR zs = [] := by unfold mfR; rw [h]; rfl
theorem mfC_no {zs : List Int} (h : mfOK zs = false) : mfC zs = 1 := by unfold mfC; rw [h]; rfl
theorem mfR_len {zs : List Int} (h : mfOK zs = true) : (mfR zs).length = zs.length := by
  have := mfOK_out h
  rw [mfR_yes h, mkD_length (zr_length 128) (slL_length leaf_len) (slL_length (layP_length 0 run1 1 (by omega))) (slL_length (suL_length _)) (by omega)]
theorem mk_ap {zs : List Int} (h : mfOK zs = true) : apS ((zs.length / 128 : Nat) : Int) zs [] (mkS (zs.length / 128)) (mkS (zs.length / 128)).length = (mfR zs, [], 0) := by
  have := mfOK_out h
  rw [mfR_yes h]
  exact mk_run (zr_length 128) (slL_length leaf_len) (slL_length (layP_length 0 run1 1 (by omega))) (slL_length (suL_length _)) (by omega)
theorem mk_ly {zs : List Int} (h : mfOK zs = true) : lay zs (mkS (zs.length / 128)) = mfR zs := by
  have := mfOK_out h
  rw [mfR_yes h]
  exact mk_lay (zr_length 128) (slL_length leaf_len) (slL_length (layP_length 0 run1 1 (by omega))) (slL_length (suL_length _)) (by omega)

theorem fresh_steps (n : Nat) (hn : 8 ≤ n ∧ n ≤ 512) (w : World) : Calls Tryz.prog 15 #[.int .i64 n] w fun e w' => ∃ sb scp, e = .returned (.slice (some ⟨sb, 0, none⟩) (mkS n).length scp) ∧ (mkS n).length ≤ scp ∧ SRead w' (.slice (some ⟨sb, 0, none⟩) (mkS n).length scp) (mkS n) ∧ Below w.heap.size w w' :=
  (freshSteps_any n hn w).mono fun e w' ⟨v, ga, gb, g1, g2, g3, f, r, q, e1, hR, hb⟩ => by
    obtain ⟨s, sc, hv⟩ := StR.at hR.row (by omega)
    have hcap : 8 ≤ sc := by
      have hrow := hR.row
      rw [hv] at hrow
      obtain ⟨-, hx⟩ := hrow
      rcases hx with ⟨hx, -⟩ | ⟨g, cap, cur, hx, -, -, hc, -⟩
      · simp at hx
      · simp only [Value.slice.injEq] at hx; omega
    have hS := hR.own.read
    rw [hv] at hS
    exact ⟨s, sc, by rw [e1, hv, mkS_length], by rw [mkS_length]; exact hcap, by rw [mkS_length]; exact hS, hb⟩

theorem spec_steps (n : Nat) (hn : 8 ≤ n ∧ n ≤ 512) (w : World) : Calls Tryz.prog 11 #[.int .i64 n] w fun e w' => ∃ sb scp, e = .returned (.tuple #[.slice (some ⟨sb, 0, none⟩) (mkS n).length scp, .int .i64 0]) ∧ SRead w' (.slice (some ⟨sb, 0, none⟩) (mkS n).length scp) (mkS n) ∧ Below w.heap.size w w' :=
  (specMkfs_yes n hn w).mono fun e w' ⟨v, e1, hP, hb⟩ => by
    have hS := hP.read
    unfold SpR at hP
    obtain ⟨a0, c0, a1, c1, ua, uc, xa, xc, ya, yc, B, hR, -⟩ := hP
    obtain ⟨s, sc, hv⟩ := StR.at hR (by omega)
    rw [hv] at hS
    exact ⟨s, sc, by rw [e1, hv, mkS_length], by rw [mkS_length]; exact hS, hb⟩

theorem implMk_any (a : Option Addr) (c : Nat) (zs : List Int) (w : World) (hv : Bts w (.slice a zs.length c) zs) (hl : zs.length ≤ 1048576) :
    Calls Tryz.prog 6 #[.slice a zs.length c] w fun e w' => ∃ ua uc, e = .returned (.tuple #[.slice ua (mfR zs).length uc, .int .i64 (mfC zs)]) ∧ Own8 w.heap.size w'.heap.size w' (.slice ua (mfR zs).length uc) (mfR zs) ∧ Below w.heap.size w w' := by
  by_cases h : mfOK zs = true
  · obtain ⟨h1, h2, h3⟩ := mfOK_out h
    have hap := mk_ap h
    have hfr := fresh_steps (zs.length / 128) ⟨h2, h3⟩
    have hsm := (mkS_small (zs.length / 128)).2
    have hlen := mkS_length (zs.length / 128)
    have hdk := (dOK_image (zs.length / 128) zs rfl).trans h
    have hd2 : ∀ i, ((mkS (zs.length / 128)).getD i (0, 0, [])).2.2.length ≤ 1048576 := fun i => by
      have := dataS_el (mkS (zs.length / 128)) i
      rw [mkS_data] at this; omega
    rw [mfC_yes h]
    generalize mkS (zs.length / 128) = ss at *
    generalize mfR zs = R at *
    exact implMk_gen (zs.length / 128) ss R a c zs w hv hl rfl hdk hap (by omega) hd2 hfr
  · have h' : mfOK zs = false := by simpa using h
    rw [mfR_no h', mfC_no h']
    exact (implMk_no a c zs w hv hl h').mono fun e w' ⟨e1, hb⟩ => ⟨none, 0, e1, Own8.empty _ _ _ _ _, hb⟩

theorem specMk_any (a : Option Addr) (c : Nat) (zs : List Int) (w : World) (hv : Bts w (.slice a zs.length c) zs) (hl : zs.length ≤ 1048576) :
    Calls Tryz.prog 4 #[.slice a zs.length c] w fun e w' => ∃ ua uc, e = .returned (.tuple #[.slice ua (mfR zs).length uc, .int .i64 (mfC zs)]) ∧ Own8 w.heap.size w'.heap.size w' (.slice ua (mfR zs).length uc) (mfR zs) ∧ Below w.heap.size w w' := by
  by_cases h : mfOK zs = true
  · obtain ⟨h1, h2, h3⟩ := mfOK_out h
    have hap := mk_ly h
    have hfr := spec_steps (zs.length / 128) ⟨h2, h3⟩
    have hel := mkS_el (zs.length / 128) (m := zs.length) (by omega)
    have hlen := mkS_length (zs.length / 128)
    have hRl := mfR_len h
    rw [mfC_yes h]
    generalize mkS (zs.length / 128) = ss at *
    generalize mfR zs = R at *
    exact specMk_gen (zs.length / 128) ss R a c zs w hv (by omega) (by omega) rfl h hRl hap (by omega) hel hfr
  · have h' : mfOK zs = false := by simpa using h
    rw [mfR_no h', mfC_no h']
    exact (specMk_no a c zs w hl h').mono fun e w' ⟨e1, hb⟩ => ⟨none, 0, e1, Own8.empty _ _ _ _ _, hb ▸ Below.refl _ _⟩
end Go.Proofs.YtpjdhfbeofdplaaGreatDoor
