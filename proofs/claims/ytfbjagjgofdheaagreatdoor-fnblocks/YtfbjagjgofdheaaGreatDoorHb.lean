import Derived.Test.YtfbjagjgofdheaaGreatDoorGv
import Derived.Deep.DeepCutAuto
namespace Go.Proofs.YtfbjagjgofdheaaGreatDoor
open Go.RowKit
set_option linter.unusedVariables false

section
variable {P B : Nat → List Int} {h m : Nat}
theorem pre_len (hP : ∀ k, P (k + 1) = P k ++ B k) (h0 : (P 0).length = h) : ∀ n, (∀ k, k < n → (B k).length = m) → (P n).length = h + m * n
  | 0, _ => by simpa using h0
  | n + 1, hB => by rw [hP, List.length_append, pre_len hP h0 n (fun k hk => hB k (by omega)), hB n (by omega), Nat.mul_succ]; omega
theorem pre_head (hP : ∀ k, P (k + 1) = P k ++ B k) (h0 : (P 0).length = h) (n j : Nat) (hj : j < h) : (P n).getD j 0 = (P 0).getD j 0 := by
  have hl : ∀ n, h ≤ (P n).length := fun n => by
    induction n with
    | zero => omega
    | succ n ih => rw [hP, List.length_append]; omega
  induction n with
  | zero => rfl
  | succ n ih =>
    have := hl n
    rw [← ih, hP]
    simp [List.getElem?_append_left (show j < (P n).length by omega)]
theorem pre_at (hP : ∀ k, P (k + 1) = P k ++ B k) (h0 : (P 0).length = h) (n : Nat) (hB : ∀ k, k < n → (B k).length = m) (k : Nat) (hk : k < n) (j : Nat) (hj : j < m) : (P n).getD (h + m * k + j) 0 = (B k).getD j 0 := by
  induction n with
  | zero => omega
  | succ n ih =>
    have hl := pre_len hP h0 n (fun i hi => hB i (by omega))
    by_cases e : k = n
    · subst e
      rw [hP]
      simp only [List.getD_eq_getElem?_getD]
      rw [List.getElem?_append_right (by omega), show h + m * k + j - (P k).length = j by omega]
    · have hlt : h + m * k + j < (P n).length := by
        have : m * (k + 1) ≤ m * n := Nat.mul_le_mul_left m (by omega)
        rw [Nat.mul_succ] at this
        omega
      rw [← ih (fun i hi => hB i (by omega)) (by omega), hP]
      simp only [List.getD_eq_getElem?_getD]
      rw [List.getElem?_append_left hlt]
end

theorem le2_of {zs : List Int} {off : Nat} {v : Int} (h0 : zs.getD off 0 = leB v 0) (h1 : zs.getD (off + 1) 0 = leB v 1) (hv : 0 ≤ v ∧ v < 65536) : le2 zs off = v := by
  unfold le2
  rw [h0, h1]
  simp [leB]
  omega

/-- the head of a sealed block -/
theorem sealL_at (xs : List Int) (i : Nat) (hi : i < xs.length) : (sealL xs).getD i 0 = xs.getD i 0 := by
  simp only [List.getD_eq_getElem?_getD, sealL, fillL, List.append_assoc]
  rw [List.getElem?_append_left hi]
theorem putL_tail (a b : List Int) (ha : a.length = 124) (hb : b.length = 4) (v : Int) : putL (a ++ b) 124 v 4 = a ++ leN v 4 := by
  match b, hb with
  | [b0, b1, b2, b3], _ => simp [putL, ha, leN, List.range_succ]
theorem sealL_take (xs : List Int) (h : xs.length ≤ 124) : (sealL xs).take 124 = fillL xs := by
  have hl := fillL_length xs h
  rw [sealL, List.take_append_of_le_length (by omega), List.take_of_length_le (by omega)]
theorem sealL_sld (xs : List Int) (h : xs.length ≤ 124) : Sld (sealL xs) := by
  unfold Sld
  rw [sealL_take xs h]
  exact putL_tail _ _ (fillL_length xs h) (leN_length _ _) _
theorem sealL_uns (xs : List Int) (h : xs.length ≤ 124) : putL (sealL xs) 124 0 4 = fillL xs ++ List.replicate 4 0 := by
  rw [sealL, putL_tail _ _ (fillL_length xs h) (leN_length _ _)]
  rfl

/-- one run's bytes -/
def runB (r : R3) : List Int := leN r.1 2 ++ leN r.2.1 2 ++ leN r.2.2 2
theorem tabP_step (nx : Int) (rs : List R3) (k : Nat) : tabP nx rs (k + 1) = tabP nx rs k ++ runB (rs.getD k (0, 0, 0)) := by simp [tabP, runB, List.append_assoc]
theorem tab_next {nx : Int} {rs : List R3} (h : tbOK nx rs) : le2 (tabL nx rs) 2 = nx := by
  have hl := tabP_length nx rs rs.length
  have hb : 0 ≤ nx ∧ nx < 65536 := by rcases h.1 with e | e <;> omega
  have key : ∀ j, j < 4 → (tabL nx rs).getD j 0 = (tabP nx rs 0).getD j 0 := fun j hj => by
    rw [tabL, sealL_at _ _ (by omega), pre_head (P := tabP nx rs) (tabP_step nx rs) (h := 4) (by rw [tabP_length]) _ _ hj]
  refine le2_of ?_ ?_ hb
  · rw [key 2 (by omega)]; rfl
  · rw [key 3 (by omega)]; rfl
theorem tab_head (nx : Int) (rs : List R3) : (tabL nx rs).getD 0 0 = 3 ∧ (tabL nx rs).getD 1 0 = rs.length := by
  have hl := tabP_length nx rs rs.length
  have key : ∀ j, j < 4 → (tabL nx rs).getD j 0 = (tabP nx rs 0).getD j 0 := fun j hj => by
    rw [tabL, sealL_at _ _ (by omega), pre_head (P := tabP nx rs) (tabP_step nx rs) (h := 4) (by rw [tabP_length]) _ _ hj]
  exact ⟨by rw [key 0 (by omega)]; rfl, by rw [key 1 (by omega)]; rfl⟩
theorem tab_runs {nx : Int} {rs : List R3} (h : tbOK nx rs) : rdT (tabL nx rs) rs.length = rs := by
  have hl := tabP_length nx rs rs.length
  apply List.ext_getElem?
  intro k
  by_cases hk : k < rs.length
  · have hin := (h.2.2.1 k hk).1
    have key : ∀ j, j < 6 → (tabL nx rs).getD (4 + 6 * k + j) 0 = (runB (rs.getD k (0, 0, 0))).getD j 0 := fun j hj => by
      rw [tabL, sealL_at _ _ (by omega), pre_at (P := tabP nx rs) (tabP_step nx rs) (h := 4) (m := 6) (by rw [tabP_length]) _ (fun k _ => by simp [runB, leN_length]) k hk j hj]
    have q := rdT_get (tabL nx rs) rs.length k hk
    obtain ⟨i1, i2, i3, i4⟩ := hin
    have e1 : le2 (tabL nx rs) (4 + 6 * k) = (rs.getD k (0, 0, 0)).1 := le2_of (key 0 (by omega)) (key 1 (by omega)) ⟨by omega, by omega⟩
    have e2 : le2 (tabL nx rs) (6 + 6 * k) = (rs.getD k (0, 0, 0)).2.1 := by
      rw [show 6 + 6 * k = 4 + 6 * k + 2 by omega]
      exact le2_of (key 2 (by omega)) (key 3 (by omega)) ⟨by omega, by omega⟩
    have e3 : le2 (tabL nx rs) (8 + 6 * k) = (rs.getD k (0, 0, 0)).2.2 := by
      rw [show 8 + 6 * k = 4 + 6 * k + 4 by omega]
      exact le2_of (key 4 (by omega)) (key 5 (by omega)) ⟨by omega, by omega⟩
    rw [e1, e2, e3] at q
    have hk2 : k < (rdT (tabL nx rs) rs.length).length := by rw [rdT_length]; exact hk
    simp only [List.getD_eq_getElem?_getD, List.getElem?_eq_getElem hk, List.getElem?_eq_getElem hk2, Option.getD_some] at q ⊢
    rw [q]
  · rw [List.getElem?_eq_none (by rw [rdT_length]; omega), List.getElem?_eq_none (by omega)]

set_option maxRecDepth 100000 in
set_option maxHeartbeats 1000000 in
theorem readForm_T (n : Nat) (hn : n ≤ 20) (zs : List Int) (hl : zs.length = 128) (hz : Byt zs) (h3 : zs.getD 0 0 = 3) (hm : zs.getD 1 0 = n) (w : World) :
    Calls Tryz.prog 47 #[.agg (u8s zs)] w fun e w' => (∃ a c, e = .returned (.tuple #[.iface 82 (.agg #[.int .i64 3, .int .i64 n, .int .i64 (le2 zs 2), .slice a n c]), .nilIface]) ∧ RRead w' (.slice a (rdT zs n).length c) (rdT zs n) ∧ Fsh w.heap.size a) ∧ Below w.heap.size w w' := by
  have hb0 := belowA w (.cells (u8s zs) 100)
  have hx : (w.alloc (.cells (u8s zs) 100)).heap[w.heap.size]? = some (.cells (u8s zs) 100 (0, 0)) := heap_alloc_new _ _
  have hR0 := rng_new w zs hl 100 w.heap.size rfl
  have b0 := hR0.2 0 (by omega)
  have b1 := hR0.2 1 (by omega)
  rw [h3] at b0
  rw [hm] at b1
  simp only [Nat.zero_add] at b0 b1
  have hs0 : w.heap.size < (w.alloc (.cells (u8s zs) 100)).heap.size := by simp
  have hz0 : (w.alloc (.cells (u8s zs) 100)).heap.size = w.heap.size + 1 := by simp
  have HT : Hid _ := fun w => readTable_any n hn zs hl hz w
  have hw : IntKind.i64.wrap (n : Int) = (n : Int) := IntWalk.i64_in _ ⟨by omega, by omega⟩
  go_enter Tryz.func47, Tryz.ntmps47
  go_wp2_with fail
  refine (checkNumber_ok 3 _ (.inr (.inr (.inl ⟨rfl, by omega, by omega⟩))) _).mono ?_
  rintro e w1 ⟨rfl, hb1⟩
  have hx1 : w1.heap[w.heap.size]? = some (.cells (u8s zs) 100 (0, 0)) := (hb1.block _ (by simp; omega)).trans (((belowA _ _).block _ hs0).trans hx)
  have hy0 := heap_alloc_new (w.alloc (.cells (u8s zs) 100)) (.cells #[.int .i64 3, .int .i64 n] 73)
  rw [hz0] at hy0
  have hy1 := (hb1.block _ (by simp)).trans hy0
  obtain ⟨p0, p1, -, -⟩ := row2 hy1
  have hR : Rng8 w1 w.heap.size 0 zs := ⟨hl, fun i hi => by
    rw [Nat.zero_add, cell_of_row w1 _ i _ _ _ hx1]
    simp [u8s, show i < zs.length by omega]⟩
  have hB0 := hb0.trans ((belowA (w.alloc (.cells (u8s zs) 100)) (.cells #[.int .i64 3, .int .i64 n] 73)).mono hb0.size)
  have hB1 := hB0.trans (hb1.mono hB0.size)
  clear hb0 hb1 hB0 hx hx1 hy0 hy1 b0 b1 hs0 hz0 hR0
  go_wp2_with (first | ((with_reducible refine wpList_load128 hR ?_ ?_); exact ⟨rfl, _, rfl, rfl⟩))
  refine (HT.out _).mono ?_
  rintro e w2 ⟨⟨a, c, rfl, hrr, hfs⟩, hb2⟩
  have HR : Hid _ := hrr
  have HF : Hid (Fsh w.heap.size a) := fun p hp => Nat.le_trans hB1.size (hfs p hp)
  have hB2 := hB1.trans (hb2.mono hB1.size)
  clear hrr hR p0 p1 hfs
  go_wp2
  exact bodyPost_ret (v := .tuple #[.iface 82 (.agg #[.int .i64 3, .int .i64 n, .int .i64 (le2 zs 2), .slice a n c]), .nilIface]) (by simp [results, Tryz.results47, go_sem]) rfl ⟨⟨_, _, rfl, HR.out, HF.out⟩, hB2⟩

/-- a table form in memory -/
def TabR (B : Nat) (nx : Int) (rs : List R3) (w : World) (v : Value) : Prop := ∃ a c, v = .agg #[.int .i64 3, .int .i64 rs.length, .int .i64 nx, .slice a rs.length c] ∧ RRead w (.slice a rs.length c) rs ∧ Fsh B a
theorem tabFrmd (B : Nat) {nx : Int} {rs : List R3} (h : tbOK nx rs) : Frmd 82 100 101 (TabR B nx rs) (layP nx rs rs.length) where
  keep := fun w w' v ⟨a, c, e, hr, hf⟩ hb => ⟨a, c, e, hr.below hb, hf⟩
  mC := methodCheckT
  mL := methodLayT
  eC := enters Tryz.func100 (by kernel_rfl) rfl
  eL := enters Tryz.func101 (by kernel_rfl) rfl
  check := fun w v ⟨a, c, e, hr, _⟩ => by subst e; exact checkT_ok nx a c rs w hr h
  lay := fun w v ⟨a, c, e, hr, _⟩ => by subst e; exact layT_any nx a c rs w hr h.2.1
  len := layP_length nx rs _ h.2.1
  byt := layP_byt nx rs h.2.1 _ h.2.1

theorem tab_uns {nx : Int} {rs : List R3} (h : rs.length ≤ 20) : putL (tabL nx rs) 124 0 4 = layP nx rs rs.length := by
  rw [tabL, sealL_uns _ (by rw [tabP_length]; omega), layP_fill nx rs _ h]

theorem decodeForm_T {nx : Int} {rs : List R3} (h : tbOK nx rs) (b off c : Nat) (w : World) (hv : Bts w (.slice (some ⟨b, off, none⟩) 128 c) (tabL nx rs)) :
    Calls Tryz.prog 31 #[.slice (some ⟨b, off, none⟩) 128 c] w fun e w' => (∃ v, e = .returned (.tuple #[.iface 82 v, .nilIface]) ∧ TabR w.heap.size nx rs w' v) ∧ Below w.heap.size w w' := by
  have hF := tabFrmd w.heap.size h
  rw [← tab_uns h.2.1] at hF
  have hp : (tabP nx rs rs.length).length ≤ 124 := by rw [tabP_length]; have := h.2.1; omega
  refine decodeForm_gen hF (tabL_length h.2.1) ((tabP_byt nx rs h.2.1 _).seal) (sealL_sld _ hp) b off c w (fun w1 hw1 => ?_) hv
  refine (readForm_T rs.length h.2.1 (tabL nx rs) (tabL_length h.2.1) ((tabP_byt nx rs h.2.1 _).seal) (tab_head nx rs).1 (tab_head nx rs).2 w1).mono ?_
  rintro e w' ⟨⟨a, c, rfl, hr, hf⟩, hb⟩
  rw [tab_runs h] at hr
  rw [tab_next h]
  exact ⟨⟨_, rfl, a, c, rfl, hr, fun p hp => Nat.le_trans hw1 (hf p hp)⟩, hb⟩
end Go.Proofs.YtfbjagjgofdheaaGreatDoor

namespace Go.Proofs.YtfbjagjgofdheaaGreatDoor
open Go.RowKit
set_option linter.unusedVariables false

abbrev R2 := Int × Int
/-- the slice value v reads in w as the roots rs -/
def TRead (w : World) (v : Value) (rs : List R2) : Prop :=
  ∃ a cap, v = .slice a rs.length cap ∧ (0 < rs.length → ∃ b off, a = some ⟨b, off, none⟩ ∧ ∀ i, i < rs.length → w.cell? ⟨b, off + i * 2, none⟩ = some (.int .i64 (rs.getD i (0, 0)).1) ∧ w.cell? ⟨b, off + i * 2 + 1, none⟩ = some (.int .i64 (rs.getD i (0, 0)).2))
theorem TRead.below {w w' : World} {v : Value} {rs : List R2} (h : TRead w v rs) (k : Below w.heap.size w w') : TRead w' v rs := by
  obtain ⟨a, cap, hv, hc⟩ := h
  refine ⟨a, cap, hv, fun hp => ?_⟩
  obtain ⟨b, off, ha, hcell⟩ := hc hp
  refine ⟨b, off, ha, fun i hi => ?_⟩
  obtain ⟨c0, c1⟩ := hcell i hi
  exact ⟨(k.cell (p := ⟨b, off + i * 2, none⟩) (World.block_lt_of_cell? _ _ c0)).trans c0, (k.cell (p := ⟨b, off + i * 2 + 1, none⟩) (World.block_lt_of_cell? _ _ c1)).trans c1⟩

/-- a root may stand behind the one before -/
def rtOK (N nx : Int) (rs : List R2) (i : Nat) : Prop := (0 ≤ (rs.getD i (0, 0)).1 ∧ (rs.getD i (0, 0)).1 ≤ nx - 1) ∧ (2 ≤ (rs.getD i (0, 0)).2 ∧ (rs.getD i (0, 0)).2 ≤ N - 1) ∧ (0 < i → (rs.getD (i - 1) (0, 0)).1 < (rs.getD i (0, 0)).1)
def fsOK (N g nx tb : Int) : Prop := (8 ≤ N ∧ N ≤ 512) ∧ (1 ≤ g ∧ g ≤ 1099511627776) ∧ (1 ≤ nx ∧ nx ≤ 65535) ∧ (2 ≤ tb ∧ tb ≤ N - 1)
/-- the superblock may be laid down -/
def spOK (N g nx tb : Int) (rs : List R2) : Prop := fsOK N g nx tb ∧ (1 ≤ rs.length ∧ rs.length ≤ 16) ∧ ∀ i, i < rs.length → rtOK N nx rs i

set_option maxRecDepth 100000 in
set_option maxHeartbeats 2000000 in
theorem superFields (N g nx tb : Int) (n : Nat) (sl : Value) (hsl : ∃ a c, sl = .slice a n c) (h : fsOK N g nx tb) (w : World) : Calls Tryz.prog 106 #[.agg #[.int .i64 4, .int .i64 n, .int .i64 N, .int .i64 g, .int .i64 nx, .int .i64 tb, sl]] w fun e w' => e = .returned .nilIface ∧ Below w.heap.size w w' := by
  obtain ⟨a, c, rfl⟩ := hsl
  obtain ⟨h1, h2, h3, h4⟩ := h
  have hb0 := belowA w (.cells #[.int .i64 4, .int .i64 n, .int .i64 N, .int .i64 g, .int .i64 nx, .int .i64 tb, .slice a n c] 85)
  go_enter Tryz.func106, Tryz.ntmps106
  go_wp2_with fail
  refine (within_any _ _ _ _).mono ?_
  rintro e w1 ⟨rfl, rfl⟩
  rw [inB_true h1]
  go_wp2_with fail
  refine (within_any _ _ _ _).mono ?_
  rintro e w1 ⟨rfl, rfl⟩
  rw [inB_true h2]
  go_wp2_with fail
  refine (within_any _ _ _ _).mono ?_
  rintro e w1 ⟨rfl, rfl⟩
  rw [inB_true h3]
  go_wp2_with fail
  refine (within_any _ _ _ _).mono ?_
  rintro e w1 ⟨rfl, rfl⟩
  rw [inB_true h4]
  go_wp2
  go_ret
  exact ⟨rfl, hb0⟩

set_option maxRecDepth 100000 in
set_option maxHeartbeats 2000000 in
theorem superRoots (N g nx tb : Int) (a : Option Addr) (c : Nat) (rs : List R2) (hok : spOK N g nx tb rs) (w : World) (hv : TRead w (.slice a rs.length c) rs) :
    Calls Tryz.prog 107 #[.agg #[.int .i64 4, .int .i64 rs.length, .int .i64 N, .int .i64 g, .int .i64 nx, .int .i64 tb, .slice a rs.length c]] w fun e w' => e = .returned .nilIface ∧ Below w.heap.size w w' := by
  obtain ⟨⟨hN, hg, hnx, htb⟩, hl, HOK'⟩ := hok
  have HOK : Hid (∀ i, i < rs.length → rtOK N nx rs i) := HOK'
  clear HOK'
  obtain ⟨_, _, he, hc⟩ := hv
  simp only [Value.slice.injEq, true_and] at he
  obtain ⟨rfl, rfl⟩ := he
  obtain ⟨b, off, rfl, hcell⟩ := hc (by omega)
  have hbl : b < w.heap.size := World.block_lt_of_cell? _ _ (hcell 0 (by omega)).1
  have HC : Hid (∀ i, i < rs.length → w.cell? ⟨b, off + i * 2, none⟩ = some (.int .i64 (rs.getD i (0, 0)).1) ∧ w.cell? ⟨b, off + i * 2 + 1, none⟩ = some (.int .i64 (rs.getD i (0, 0)).2)) := hcell
  clear hc hcell
  obtain ⟨W0, hW0⟩ : ∃ W0, W0 = w.alloc (.cells #[.int .i64 4, .int .i64 rs.length, .int .i64 N, .int .i64 g, .int .i64 nx, .int .i64 tb, .slice (some ⟨b, off, none⟩) rs.length c] 85) := ⟨_, rfl⟩
  have hb0 : Below w.heap.size w W0 := by rw [hW0]; exact belowA _ _
  have f2 : W0.cell? ⟨w.heap.size, 2, none⟩ = some (.int .i64 N) := by rw [hW0]; exact World.cell?_alloc_at _ _ _ _ rfl
  have f4 : W0.cell? ⟨w.heap.size, 4, none⟩ = some (.int .i64 nx) := by rw [hW0]; exact World.cell?_alloc_at _ _ _ _ rfl
  have f6 : W0.cell? ⟨w.heap.size, 6, none⟩ = some (.slice (some ⟨b, off, none⟩) rs.length c) := by rw [hW0]; exact World.cell?_alloc_at _ _ _ _ rfl
  have hs0 : w.heap.size < W0.heap.size := World.block_lt_of_cell? _ _ f2
  have HW0 : Hid (W0 = w.alloc (.cells #[.int .i64 4, .int .i64 rs.length, .int .i64 N, .int .i64 g, .int .i64 nx, .int .i64 tb, .slice (some ⟨b, off, none⟩) rs.length c] 85)) := hW0
  clear hW0
  have HB0 : Hid (Below w.heap.size w W0) := hb0
  clear hb0
  have w1e : IntKind.i64.wrap (nx - 1) = nx - 1 := IntWalk.i64_in _ ⟨by omega, by omega⟩
  have w2e : IntKind.i64.wrap (N - 1) = N - 1 := IntWalk.i64_in _ ⟨by omega, by omega⟩
  go_enter Tryz.func107, Tryz.ntmps107
  go_upto_region 1 with fail
  rw [← HW0.out]
  go_wp2_with fail
  go_loopw [10] (fun i wr => ∃ k : Nat, k ≤ rs.length ∧ i = .int .i64 k ∧ Below W0.heap.size W0 wr) (fun i _ => rs.length - (intOf i).toNat)
  case atStart => exact ⟨0, by omega, rfl, Below.refl _ _⟩
  case round =>
    obtain ⟨k, hk, rfl, hb⟩ := hrel
    have g2 : wr.cell? ⟨w.heap.size, 2, none⟩ = some (.int .i64 N) := (hb.cell (p := ⟨w.heap.size, 2, none⟩) hs0).trans f2
    have g4 : wr.cell? ⟨w.heap.size, 4, none⟩ = some (.int .i64 nx) := (hb.cell (p := ⟨w.heap.size, 4, none⟩) hs0).trans f4
    have g6 : wr.cell? ⟨w.heap.size, 6, none⟩ = some (.slice (some ⟨b, off, none⟩) rs.length c) := (hb.cell (p := ⟨w.heap.size, 6, none⟩) hs0).trans f6
    have HB : Hid (Below w.heap.size w wr) := HB0.out.trans (hb.mono HB0.out.size)
    clear f2 f4 f6
    by_cases hlt : k < rs.length
    · obtain ⟨q1, q2, q3⟩ := HOK.out k hlt
      obtain ⟨c0, c1⟩ := HC.out k hlt
      rw [← HB.out.cell (p := ⟨b, off + k * 2, none⟩) hbl] at c0
      rw [← HB.out.cell (p := ⟨b, off + k * 2 + 1, none⟩) hbl] at c1
      have hki : (k : Int) < (rs.length : Int) := by omega
      have hsr : w.heap.size < wr.heap.size := Nat.lt_of_lt_of_le hs0 hb.size
      have hbr : b < wr.heap.size := by omega
      have hb2 := fun o => hb.trans ((belowA wr o).mono hb.size)
      by_cases h0 : k = 0
      · subst h0
        have HQ3 : Hid (0 < 0 → (rs.getD (0 - 1) (0, 0)).1 < (rs.getD 0 (0, 0)).1) := q3
        clear q3
        simp only [Nat.zero_mul, Nat.add_zero] at c0 c1
        generalize (rs.getD 0 (0, 0)).1 = x at *
        generalize (rs.getD 0 (0, 0)).2 = y at *
        go_wp2_with fail
        refine (within_any _ _ _ _).mono ?_
        rintro e w1 ⟨rfl, rfl⟩
        rw [inB_true q1]
        go_wp2_with fail
        refine (within_any _ _ _ _).mono ?_
        rintro e w1 ⟨rfl, rfl⟩
        rw [inB_true q2]
        go_wp2
        go_quiet (fail)
        go_wp2
        go_roundw
        case rel => exact ⟨1, by omega, by go_num, below_drewN (hb2 _) _⟩
        case measure => simp [intOf]; omega
      · have q3' := q3 (by omega)
        obtain ⟨d0, -⟩ := HC.out (k - 1) (by omega)
        rw [← HB.out.cell (p := ⟨b, off + (k - 1) * 2, none⟩) hbl] at d0
        have hw1 : IntKind.i64.wrap ((k : Int) - 1) = ((k - 1 : Nat) : Int) := (IntWalk.i64_in _ ⟨by omega, by omega⟩).trans (by omega)
        have hi1 : ((k - 1 : Nat) : Int) < (rs.length : Int) := by omega
        have hk0 : 0 < k := by omega
        have HK1 : Hid (k - 1 < k) := by rw [Hid]; omega
        clear q3
        generalize k - 1 = k1 at *
        generalize (rs.getD k (0, 0)).1 = x at *
        generalize (rs.getD k (0, 0)).2 = y at *
        generalize (rs.getD k1 (0, 0)).1 = z at *
        have hxz : ¬ x ≤ z := by omega
        have HBX : Hid (Below W0.heap.size W0 (wr.alloc (.cells #[.int .i64 x, .int .i64 y] 46))) := hb2 _
        have r0 : (wr.alloc (.cells #[.int .i64 x, .int .i64 y] 46)).cell? ⟨wr.heap.size, 0, none⟩ = some (.int .i64 x) := World.cell?_alloc_at _ _ _ _ rfl
        have r6 : (wr.alloc (.cells #[.int .i64 x, .int .i64 y] 46)).cell? ⟨w.heap.size, 6, none⟩ = some (.slice (some ⟨b, off, none⟩) rs.length c) := (World.cell?_alloc_lt _ _ ⟨w.heap.size, 6, none⟩ hsr).trans g6
        have rd : (wr.alloc (.cells #[.int .i64 x, .int .i64 y] 46)).cell? ⟨b, off + k1 * 2, none⟩ = some (.int .i64 z) := (World.cell?_alloc_lt _ _ ⟨b, off + k1 * 2, none⟩ hbr).trans d0
        go_wp2_with fail
        refine (within_any _ _ _ _).mono ?_
        rintro e w1 ⟨rfl, rfl⟩
        rw [inB_true q1]
        go_wp2_with fail
        refine (within_any _ _ _ _).mono ?_
        rintro e w1 ⟨rfl, rfl⟩
        rw [inB_true q2]
        generalize wr.alloc (.cells #[.int .i64 x, .int .i64 y] 46) = X0 at *
        clear g2 g4 g6 c0 c1 d0 hb2 q1 q2 w1e w2e
        generalize wr.heap.size = rb at *
        go_wp2_with fail
        go_quiet (fail)
        go_wp2
        go_roundw
        case rel => exact ⟨k + 1, by omega, by go_num, below_drewN HBX.out _⟩
        case measure => simp [intOf]; omega
    · have hki : ¬ (k : Int) < (rs.length : Int) := by omega
      go_wp2
      go_ret
      exact ⟨rfl, HB.out⟩

set_option maxRecDepth 100000 in
set_option maxHeartbeats 2000000 in
theorem superCheck (N g nx tb : Int) (a : Option Addr) (c : Nat) (rs : List R2) (hok : spOK N g nx tb rs) (w : World) (hv : TRead w (.slice a rs.length c) rs) :
    Calls Tryz.prog 104 #[.agg #[.int .i64 4, .int .i64 rs.length, .int .i64 N, .int .i64 g, .int .i64 nx, .int .i64 tb, .slice a rs.length c]] w fun e w' => e = .returned .nilIface ∧ Below w.heap.size w w' := by
  have hl := hok.2.1
  obtain ⟨W0, hW0⟩ : ∃ W0, W0 = w.alloc (.cells #[.int .i64 4, .int .i64 rs.length, .int .i64 N, .int .i64 g, .int .i64 nx, .int .i64 tb, .slice a rs.length c] 85) := ⟨_, rfl⟩
  have hb0 : Below w.heap.size w W0 := by rw [hW0]; exact belowA _ _
  have hX : W0.heap[w.heap.size]? = some (.cells #[.int .i64 4, .int .i64 rs.length, .int .i64 N, .int .i64 g, .int .i64 nx, .int .i64 tb, .slice a rs.length c] 85 (0, 0)) := by rw [hW0]; exact heap_alloc_new w _
  have hs0 : w.heap.size < W0.heap.size := (Array.getElem?_eq_some_iff.1 hX).1
  have HW0 : Hid (W0 = w.alloc (.cells #[.int .i64 4, .int .i64 rs.length, .int .i64 N, .int .i64 g, .int .i64 nx, .int .i64 tb, .slice a rs.length c] 85)) := hW0
  have hcell : ∀ W : World, W.heap[w.heap.size]? = some (.cells #[.int .i64 4, .int .i64 rs.length, .int .i64 N, .int .i64 g, .int .i64 nx, .int .i64 tb, .slice a rs.length c] 85 (0, 0)) → W.cell? ⟨w.heap.size, 0, none⟩ = some (.int .i64 4) ∧ W.cell? ⟨w.heap.size, 1, none⟩ = some (.int .i64 rs.length) ∧ W.cell? ⟨w.heap.size, 2, none⟩ = some (.int .i64 N) ∧ W.cell? ⟨w.heap.size, 3, none⟩ = some (.int .i64 g) ∧ W.cell? ⟨w.heap.size, 4, none⟩ = some (.int .i64 nx) ∧ W.cell? ⟨w.heap.size, 5, none⟩ = some (.int .i64 tb) ∧ W.cell? ⟨w.heap.size, 6, none⟩ = some (.slice a rs.length c) := fun W h => by
    simp [World.cell?, h]
  clear hW0
  obtain ⟨x0, x1, x2, x3, x4, x5, x6⟩ := hcell W0 hX
  have HOK : Hid _ := hok
  clear hok
  go_enter Tryz.func104, Tryz.ntmps104
  go_upto_region 1 with fail
  rw [← HW0.out]
  go_wp2_with fail
  refine (checkNumber_ok 4 _ (.inr (.inr (.inr ⟨rfl, by omega, by omega⟩))) _).mono ?_
  rintro e w1 ⟨rfl, hb1⟩
  have hX1 := (hb1.block _ hs0).trans hX
  obtain ⟨y0, y1, y2, y3, y4, y5, y6⟩ := hcell w1 hX1
  have hB1 := hb0.trans (hb1.mono (Nat.le_of_lt hs0))
  have hs1 := hb1.size
  clear x0 x1 x2 x3 x4 x5 x6
  go_wp2_with fail
  refine (superFields N g nx tb rs.length _ ⟨_, _, rfl⟩ HOK.out.1 w1).mono ?_
  rintro e w2 ⟨rfl, hb2⟩
  have hX2 := (hb2.block _ (by omega)).trans hX1
  obtain ⟨z0, z1, z2, z3, z4, z5, z6⟩ := hcell w2 hX2
  have hB2 := hB1.trans (hb2.mono hB1.size)
  clear y0 y1 y2 y3 y4 y5 y6
  go_wp2_with fail
  refine (superRoots N g nx tb a c rs HOK.out w2 (hv.below hB2)).mono ?_
  rintro e w3 ⟨rfl, hb3⟩
  have hB3 := hB2.trans (hb3.mono hB2.size)
  clear z0 z1 z2 z3 z4 z5 z6
  go_wp2
  go_ret
  exact ⟨rfl, hB3⟩
end Go.Proofs.YtfbjagjgofdheaaGreatDoor

namespace Go.Proofs.YtfbjagjgofdheaaGreatDoor
open Go.RowKit
set_option linter.unusedVariables false

theorem headL_byt (k n : Int) (h1 : 0 ≤ k ∧ k < 256) (h2 : 0 ≤ n ∧ n < 256) : Byt (headL k n) := by
  intro i
  match i with
  | 0 => simpa [headL] using h1
  | 1 => simpa [headL] using h2
  | i + 2 => have := Byt.zeros 126 i; simpa [headL] using this

/-- a superblock's bytes: the head, and the first k roots -/
def supH (N g nx tb : Int) (n : Nat) : List Int := [4, (n : Int)] ++ leN N 2 ++ leN g 8 ++ leN nx 2 ++ leN tb 2
def rootB (r : R2) : List Int := leN r.1 2 ++ leN r.2 2
def supQ (N g nx tb : Int) (rs : List R2) : Nat → List Int
  | 0 => supH N g nx tb rs.length
  | k + 1 => supQ N g nx tb rs k ++ rootB (rs.getD k (0, 0))
theorem supQ_step (N g nx tb : Int) (rs : List R2) (k : Nat) : supQ N g nx tb rs (k + 1) = supQ N g nx tb rs k ++ rootB (rs.getD k (0, 0)) := rfl
theorem supH_length (N g nx tb : Int) (n : Nat) : (supH N g nx tb n).length = 16 := by simp [supH, leN_length]
theorem supQ_length (N g nx tb : Int) (rs : List R2) (k : Nat) : (supQ N g nx tb rs k).length = 16 + 4 * k := pre_len (P := supQ N g nx tb rs) (supQ_step N g nx tb rs) (supH_length _ _ _ _ _) k (fun _ _ => by simp [rootB, leN_length])
theorem supQ_byt (N g nx tb : Int) (rs : List R2) (hl : rs.length ≤ 16) (k : Nat) : Byt (supQ N g nx tb rs k) := by
  induction k with
  | zero =>
    refine Byt.append (Byt.append (Byt.append (Byt.append (fun i => ?_) (Byt.le _ _)) (Byt.le _ _)) (Byt.le _ _)) (Byt.le _ _)
    match i with
    | 0 => simp
    | 1 => simp; omega
    | i + 2 => simp
  | succ k ih => exact ih.append ((Byt.le _ _).append (Byt.le _ _))
/-- the block -/
def supL (N g nx tb : Int) (rs : List R2) : List Int := sealL (supQ N g nx tb rs rs.length)
/-- the same as the program lays it -/
def lu1 (N : Int) (n : Nat) : List Int := putL (headL 4 n) 2 N 2
def lu2 (N g : Int) (n : Nat) : List Int := putL (lu1 N n) 4 g 8
def lu3 (N g nx : Int) (n : Nat) : List Int := putL (lu2 N g n) 12 nx 2
def layU (N g nx tb : Int) (rs : List R2) : Nat → List Int
  | 0 => putL (lu3 N g nx rs.length) 14 tb 2
  | k + 1 => putL (putL (layU N g nx tb rs k) (16 + 4 * k) (rs.getD k (0, 0)).1 2) (16 + 4 * k + 2) (rs.getD k (0, 0)).2 2
theorem layU_eq (N g nx tb : Int) (rs : List R2) (k : Nat) (h : k ≤ 16) : layU N g nx tb rs k = supQ N g nx tb rs k ++ List.replicate (112 - 4 * k) 0 := by
  induction k with
  | zero =>
    have e0 : headL 4 rs.length = [4, (rs.length : Int)] ++ List.replicate 126 0 := rfl
    have e1 : lu1 N rs.length = ([4, (rs.length : Int)] ++ leN N 2) ++ List.replicate 124 0 := by rw [lu1, e0, putL_at _ 2 rfl N 126 2 (by omega)]
    have e2 : lu2 N g rs.length = ([4, (rs.length : Int)] ++ leN N 2 ++ leN g 8) ++ List.replicate 116 0 := by rw [lu2, e1, putL_at _ 4 (by simp [leN_length]) g 124 8 (by omega)]
    have e3 : lu3 N g nx rs.length = ([4, (rs.length : Int)] ++ leN N 2 ++ leN g 8 ++ leN nx 2) ++ List.replicate 114 0 := by rw [lu3, e2, putL_at _ 12 (by simp [leN_length]) nx 116 2 (by omega)]
    rw [layU, e3, putL_at _ 14 (by simp [leN_length]) tb 114 2 (by omega)]
    rfl
  | succ k ih =>
    have hl := supQ_length N g nx tb rs k
    rw [layU, ih (by omega), putL_at _ (16 + 4 * k) hl.symm _ _ 2 (by omega), putL_at _ (16 + 4 * k + 2) (by simp [hl, leN_length]) _ _ 2 (by omega), supQ_step, rootB]
    rw [show 112 - 4 * k - 2 - 2 = 112 - 4 * (k + 1) by omega]
    simp only [List.append_assoc]
theorem layU_fill (N g nx tb : Int) (rs : List R2) (k : Nat) (h : k ≤ 16) : layU N g nx tb rs k = fillL (supQ N g nx tb rs k) ++ List.replicate 4 0 := by
  rw [layU_eq N g nx tb rs k h, fillL, supQ_length, List.append_assoc, List.replicate_append_replicate]
  rw [show 124 - (16 + 4 * k) + 4 = 112 - 4 * k by omega]
theorem layU_length (N g nx tb : Int) (rs : List R2) (k : Nat) (h : k ≤ 16) : (layU N g nx tb rs k).length = 128 := by rw [layU_eq N g nx tb rs k h]; simp [supQ_length]; omega
theorem layU_byt (N g nx tb : Int) (rs : List R2) (hl : rs.length ≤ 16) (k : Nat) (h : k ≤ 16) : Byt (layU N g nx tb rs k) := by rw [layU_eq N g nx tb rs k h]; exact (supQ_byt N g nx tb rs hl k).append (Byt.zeros _)
theorem supL_length {N g nx tb : Int} {rs : List R2} (h : rs.length ≤ 16) : (supL N g nx tb rs).length = 128 := sealL_length _ (by rw [supQ_length]; omega)
theorem supL_uns {N g nx tb : Int} {rs : List R2} (h : rs.length ≤ 16) : putL (supL N g nx tb rs) 124 0 4 = layU N g nx tb rs rs.length := by
  rw [supL, sealL_uns _ (by rw [supQ_length]; omega), layU_fill _ _ _ _ _ _ h]
/-- what is laid and sealed -/
theorem fill_seal (xs : List Int) (h : xs.length ≤ 124) : putL (fillL xs ++ List.replicate 4 0) 124 (crcOf ((fillL xs ++ List.replicate 4 0).take 124)) 4 = sealL xs := by
  have hl := fillL_length xs h
  rw [List.take_append_of_le_length (by omega), List.take_of_length_le (by omega), putL_tail _ _ hl (by simp)]
  rfl
theorem layU_seal {N g nx tb : Int} {rs : List R2} (h : rs.length ≤ 16) : putL (layU N g nx tb rs rs.length) 124 (crcOf ((layU N g nx tb rs rs.length).take 124)) 4 = supL N g nx tb rs := by
  rw [layU_fill _ _ _ _ _ _ h, fill_seal _ (by rw [supQ_length]; omega)]
  rfl

/-- the block is being laid at g; the form's box (bx) and the answer's block lie ahead of it -/
structure LayU (w wr : World) (g : Nat) (bx : Obj) (zs : List Int) : Prop where
  arr : Arr wr g zs
  below : Below w.heap.size w wr
  box : wr.heap[w.heap.size]? = some bx
  there : wr.there (w.heap.size + 1) 0 128
  far : w.heap.size + 1 < g
theorem LayU.upd {w wr w' : World} {g : Nat} {bx : Obj} {zs zs' : List Int} (h : LayU w wr g bx zs) (hu : Upd g (g + 1) wr w') (ha : Arr w' g zs') : LayU w w' g bx zs' := by
  have hg := h.arr.lt
  have hf := h.far
  have e1 : w'.heap[w.heap.size]? = wr.heap[w.heap.size]? := hu.block _ (by omega) (.inl (by omega))
  have e2 : w'.heap[w.heap.size + 1]? = wr.heap[w.heap.size + 1]? := hu.block _ (by omega) (.inl (by omega))
  exact ⟨ha, h.below.trans (hu.below (by omega) (by omega)), e1.trans h.box, there_block h.there e2, hf⟩
theorem LayU.alloc {w wr : World} {g : Nat} {bx : Obj} {zs : List Int} (h : LayU w wr g bx zs) (o : Obj) : LayU w (wr.alloc o) g bx zs := by
  have hb := belowA wr o
  have hg := h.arr.lt
  have hf := h.far
  exact ⟨h.arr.below hb, h.below.trans (hb.mono h.below.size), (hb.block _ (show w.heap.size < wr.heap.size by omega)).trans h.box, there_block h.there (hb.block _ (by omega)), hf⟩
theorem LayU.drew {w wr : World} {g : Nat} {bx : Obj} {zs : List Int} (h : LayU w wr g bx zs) : LayU w wr.drew g bx zs :=
  ⟨h.arr.heap rfl, h.below.drew, h.box, h.there, h.far⟩
theorem putLayU {w X : World} {g : Nat} {bx : Obj} {zs : List Int} (h : LayU w X g bx zs) (off n cap : Nat) (v : Int) (ho : off + n ≤ 128) (hn : n ≤ 8) :
    Calls Tryz.prog 60 #[.slice (some ⟨g, off, none⟩) n cap, .int .i64 v] X.drew fun e w' => e = .returned (.tuple #[]) ∧ LayU w w' g bx (putL zs off v n) := by
  refine (putNumber_any g off n cap v zs X.drew h.drew.arr ho hn).mono ?_
  rintro e w' ⟨rfl, hA, hu⟩
  exact ⟨rfl, h.drew.upd hu hA⟩
/-- a root's box -/
def BoxT (w : World) (rb : Nat) (x y : Int) : Prop := w.cell? ⟨rb, 0, none⟩ = some (.int .i64 x) ∧ w.cell? ⟨rb, 1, none⟩ = some (.int .i64 y)
theorem putLayT {w X : World} {g rb : Nat} {bx : Obj} {zs : List Int} {x y : Int} (h : LayU w X g bx zs) (hr : rb ≠ g) (hc : BoxT X rb x y) (off cap : Nat) (v : Int) (ho : off + 2 ≤ 128) :
    Calls Tryz.prog 60 #[.slice (some ⟨g, off, none⟩) 2 cap, .int .i64 v] X.drew fun e w' => e = .returned (.tuple #[]) ∧ LayU w w' g bx (putL zs off v 2) ∧ BoxT w' rb x y := by
  refine (putNumber_any g off 2 cap v zs X.drew h.drew.arr ho (by omega)).mono ?_
  rintro e w' ⟨rfl, hA, hu⟩
  have hrb : rb < X.drew.heap.size := World.block_lt_of_cell? X.drew ⟨rb, 0, none⟩ (show X.drew.cell? ⟨rb, 0, none⟩ = _ from hc.1)
  have e1 : w'.heap[rb]? = X.drew.heap[rb]? := hu.block _ hrb (by omega)
  exact ⟨rfl, h.drew.upd hu hA, (World.cell?_of_block (a := ⟨rb, 0, none⟩) e1).trans hc.1, (World.cell?_of_block (a := ⟨rb, 1, none⟩) e1).trans hc.2⟩

set_option maxRecDepth 100000 in
set_option maxHeartbeats 4000000 in
theorem superLay (N g nx tb : Int) (a : Option Addr) (c : Nat) (rs : List R2) (hl : 1 ≤ rs.length ∧ rs.length ≤ 16) (w : World) (hv : TRead w (.slice a rs.length c) rs) :
    Calls Tryz.prog 105 #[.agg #[.int .i64 4, .int .i64 rs.length, .int .i64 N, .int .i64 g, .int .i64 nx, .int .i64 tb, .slice a rs.length c]] w fun e w' => e = .returned (.agg (u8s (layU N g nx tb rs rs.length))) ∧ Below w.heap.size w w' := by
  have hh := headL_length 4 rs.length
  have HHB : Hid (Byt (headL 4 rs.length)) := headL_byt 4 rs.length (by omega) (by omega)
  obtain ⟨bx, HBX⟩ : ∃ bx : Obj, Hid (bx = .cells #[.int .i64 4, .int .i64 rs.length, .int .i64 N, .int .i64 g, .int .i64 nx, .int .i64 tb, .slice a rs.length c] 85 (0, 0)) := ⟨_, rfl⟩
  have hcell : ∀ W : World, W.heap[w.heap.size]? = some bx → W.cell? ⟨w.heap.size, 2, none⟩ = some (.int .i64 N) ∧ W.cell? ⟨w.heap.size, 3, none⟩ = some (.int .i64 g) ∧ W.cell? ⟨w.heap.size, 4, none⟩ = some (.int .i64 nx) ∧ W.cell? ⟨w.heap.size, 5, none⟩ = some (.int .i64 tb) ∧ W.cell? ⟨w.heap.size, 6, none⟩ = some (.slice a rs.length c) := fun W h => by
    rw [HBX.out] at h
    simp [World.cell?, h]
  have HCELL : Hid _ := hcell
  clear hcell
  go_enter Tryz.func105, Tryz.ntmps105
  go_wp2_with fail
  obtain ⟨W0, HW⟩ : ∃ W0, Hid (W0 = (w.alloc (.cells #[.int .i64 4, .int .i64 rs.length, .int .i64 N, .int .i64 g, .int .i64 nx, .int .i64 tb, .slice a rs.length c] 85)).alloc (.cells Tryz.zeroCells100 100)) := ⟨_, rfl⟩
  rw [← HW.out]
  refine (begin_any 4 rs.length (by omega) (by omega) W0).mono ?_
  rintro e w2 ⟨rfl, hb2⟩
  have HL0 : Hid (LayU w (w2.alloc (.cells (u8s (headL 4 rs.length)) 100)) w2.heap.size bx (headL 4 rs.length)) := by
    have e1 : W0.heap[w.heap.size]? = some bx := by
      rw [HW.out, HBX.out]
      exact ((belowA (w.alloc (.cells #[.int .i64 4, .int .i64 rs.length, .int .i64 N, .int .i64 g, .int .i64 nx, .int .i64 tb, .slice a rs.length c] 85)) (.cells Tryz.zeroCells100 100)).block _ (by simp)).trans (heap_alloc_new w _)
    have e3 : W0.there (w.heap.size + 1) 0 128 := by rw [HW.out, zeroRaw]; exact there_new _ _ (by simp)
    have e4 : W0.heap.size = w.heap.size + 1 + 1 := by rw [HW.out]; simp
    have e5 : Below w.heap.size w W0 := by rw [HW.out]; exact ((Below.refl _ _).alloc (Nat.le_refl _) _).alloc (by simp) _
    have hb3 := hb2.trans ((belowA w2 (.cells (u8s (headL 4 rs.length)) 100)).mono hb2.size)
    have hs2 := hb2.size
    exact ⟨Arr.new w2 _ hh HHB.out _, e5.trans (hb3.mono e5.size), (hb3.block _ (show w.heap.size < W0.heap.size by omega)).trans e1, there_block e3 (hb3.block _ (by omega)), by omega⟩
  go_wp2_with (first | ((with_reducible refine wpList_alloc128 ?_ ?_); exact ⟨rfl, rfl⟩) | ((with_reducible refine wpList_store_new hh ?_ ?_); exact ⟨rfl, _, _, _, rfl, rfl, rfl, rfl⟩))
  simp only [Act.put, List.setIfInBounds_toArray, List.set_cons_zero, List.set_cons_succ]
  obtain ⟨W3, HW3⟩ : ∃ W3, Hid (W3 = w2.alloc (.cells (u8s (headL 4 rs.length)) 100)) := ⟨_, rfl⟩
  rw [← HW3.out] at HL0 ⊢
  generalize w2.heap.size = g0 at *
  clear hb2 HW3 HW
  have p0 := (HCELL.out W3 HL0.out.box).1
  have HC0 : Hid (Calls Tryz.prog 60 #[.slice (some ⟨g0, 2, none⟩) 2 126, .int .i64 N] W3.drew fun e w' => e = .returned (.tuple #[]) ∧ LayU w w' g0 bx (lu1 N rs.length)) := putLayU HL0.out 2 2 126 N (by omega) (by omega)
  go_region_held3 (fun w' => w'.cell? ⟨w.heap.size, 2, none⟩ = some (.int .i64 N)) (first | go_keep | assumption)
    ((go_at_call 60; refine HC0.out.mono ?_; rintro e V0 ⟨rfl, hL0⟩; have hk0 : V0.cell? ⟨w.heap.size, 2, none⟩ = some (.int .i64 N) := (HCELL.out V0 hL0.box).1))
  have HL1 : Hid (LayU w V0 g0 bx (lu1 N rs.length)) := hL0
  clear hL0 hk0 HC0 p0 HL0
  have p1 := (HCELL.out V0 HL1.out.box).2.1
  have HC1 : Hid (Calls Tryz.prog 60 #[.slice (some ⟨g0, 4, none⟩) 8 124, .int .i64 g] V0.drew fun e w' => e = .returned (.tuple #[]) ∧ LayU w w' g0 bx (lu2 N g rs.length)) := putLayU HL1.out 4 8 124 g (by omega) (by omega)
  go_wp2_with fail
  go_region_held3 (fun w' => w'.cell? ⟨w.heap.size, 3, none⟩ = some (.int .i64 g)) (first | go_keep | assumption)
    ((go_at_call 60; refine HC1.out.mono ?_; rintro e V1 ⟨rfl, hL1⟩; have hk1 : V1.cell? ⟨w.heap.size, 3, none⟩ = some (.int .i64 g) := (HCELL.out V1 hL1.box).2.1))
  have HL2 : Hid (LayU w V1 g0 bx (lu2 N g rs.length)) := hL1
  clear hL1 hk1 HC1 p1 HL1
  have p2 := (HCELL.out V1 HL2.out.box).2.2.1
  have HC2 : Hid (Calls Tryz.prog 60 #[.slice (some ⟨g0, 12, none⟩) 2 116, .int .i64 nx] V1.drew fun e w' => e = .returned (.tuple #[]) ∧ LayU w w' g0 bx (lu3 N g nx rs.length)) := putLayU HL2.out 12 2 116 nx (by omega) (by omega)
  go_wp2_with fail
  go_region_held3 (fun w' => w'.cell? ⟨w.heap.size, 4, none⟩ = some (.int .i64 nx)) (first | go_keep | assumption)
    ((go_at_call 60; refine HC2.out.mono ?_; rintro e V2 ⟨rfl, hL2⟩; have hk2 : V2.cell? ⟨w.heap.size, 4, none⟩ = some (.int .i64 nx) := (HCELL.out V2 hL2.box).2.2.1))
  have HL3 : Hid (LayU w V2 g0 bx (lu3 N g nx rs.length)) := hL2
  clear hL2 hk2 HC2 p2 HL2
  have p3 := (HCELL.out V2 HL3.out.box).2.2.2.1
  have HC3 : Hid (Calls Tryz.prog 60 #[.slice (some ⟨g0, 14, none⟩) 2 114, .int .i64 tb] V2.drew fun e w' => e = .returned (.tuple #[]) ∧ LayU w w' g0 bx (layU N g nx tb rs 0)) := putLayU HL3.out 14 2 114 tb (by omega) (by omega)
  go_wp2_with fail
  go_region_held3 (fun w' => w'.cell? ⟨w.heap.size, 5, none⟩ = some (.int .i64 tb)) (first | go_keep | assumption)
    ((go_at_call 60; refine HC3.out.mono ?_; rintro e V3 ⟨rfl, hL3⟩; have hk3 : V3.cell? ⟨w.heap.size, 5, none⟩ = some (.int .i64 tb) := (HCELL.out V3 hL3.box).2.2.2.1))
  have HL4 : Hid (LayU w V3 g0 bx (layU N g nx tb rs 0)) := hL3
  clear hL3 hk3 HC3 p3 HL3
  have p6 := (HCELL.out V3 HL4.out.box).2.2.2.2
  go_wp2
  clear p6 HCELL HBX HHB hh
  go_loopw [34] (fun i wr => ∃ k : Nat, k ≤ rs.length ∧ i = .int .i64 k ∧ LayU w wr g0 bx (layU N g nx tb rs k)) (fun i _ => rs.length - (intOf i).toNat)
  case atStart => exact ⟨0, Nat.zero_le _, rfl, HL4.out⟩
  case round =>
    obtain ⟨k, hk, rfl, hL⟩ := hrel
    clear HL4
    by_cases hlt : k < rs.length
    · have hki : (k : Int) < (rs.length : Int) := by omega
      obtain ⟨_, _, he, hc⟩ := hv.below hL.below
      simp only [Value.slice.injEq, true_and] at he
      obtain ⟨rfl, rfl⟩ := he
      obtain ⟨b, off, rfl, hcell⟩ := hc (by omega)
      obtain ⟨c1, c2⟩ := hcell k hlt
      have HSN : Hid (layU N g nx tb rs (k + 1) = putL (putL (layU N g nx tb rs k) (16 + 4 * k) (rs.getD k (0, 0)).1 2) (16 + 4 * k + 2) (rs.getD k (0, 0)).2 2) := rfl
      obtain ⟨p, HP⟩ : ∃ p, Hid (rs.getD k (0, 0) = p) := ⟨_, rfl⟩
      rw [HP.out] at c1 c2 HSN
      obtain ⟨x, y⟩ := p
      simp only at c1 c2 HSN
      have HL : Hid _ := hL
      clear hL hcell hc hv
      obtain ⟨at4, HAT⟩ : ∃ at4 : Nat, Hid (16 + 4 * k = at4) := ⟨_, rfl⟩
      obtain ⟨cp, HCP⟩ : ∃ cp : Nat, Hid (128 - at4 = cp) := ⟨_, rfl⟩
      have hsl : ∀ X : World, (Instr.sliceAt 100 (.pointer (some ⟨g0, 0, none⟩)) (some (.int .i64 (16 + 4 * (k : Int)))) none none).run Tryz.prog X = .ok (.slice (some ⟨g0, at4, none⟩) cp cp) X := fun X => by
        rw [sliceRaw_l g0 (16 + 4 * k) (by omega) _ (by omega) X, HAT.out, HCP.out]
      have hcp4 : (4 : Int) ≤ (cp : Int) := by have := HAT.out; have := HCP.out; omega
      have hcp2 : (2 : Int) ≤ (cp : Int) := by omega
      have hn0 : ¬ cp = 0 := by omega
      have hn2 : ¬ cp = 2 := by omega
      have HL0 := fun o => (show Hid (LayU w (wr.alloc o) g0 bx (layU N g nx tb rs k)) from HL.out.alloc o)
      have HC0 : Hid (BoxT (wr.alloc (.cells #[.int .i64 x, .int .i64 y] 46)) wr.heap.size x y) := ⟨World.cell?_alloc_at _ _ _ _ rfl, World.cell?_alloc_at _ _ _ _ rfl⟩
      have HNE : Hid (wr.heap.size ≠ g0) := by have := HL.out.arr.lt; unfold Hid; omega
      have HO : Hid (at4 + 4 ≤ 128) := by have := HAT.out; unfold Hid; omega
      go_wp2_with fail
      have hX0 := (HL0 (.cells #[.int .i64 x, .int .i64 y] 46)).out
      have hB0 := HC0.out
      generalize wr.alloc (.cells #[.int .i64 x, .int .i64 y] 46) = X0 at *
      generalize wr.heap.size = rb at *
      obtain ⟨d0, d1⟩ := hB0
      have HX0 : Hid _ := hX0
      clear hX0 HL0 c1 c2 hsl
      go_region_held3 (fun w' => w'.cell? ⟨rb, 0, none⟩ = some (.int .i64 x) ∧ w'.cell? ⟨rb, 1, none⟩ = some (.int .i64 y)) (first | go_keep | assumption)
        ((go_at_call 60; refine (putLayT HX0.out HNE.out HC0.out at4 _ x (by have := HO.out; omega)).mono ?_; rintro e w5 ⟨rfl, hL5, hc5⟩; have hd5 : w5.cell? ⟨rb, 0, none⟩ = some (.int .i64 x) ∧ w5.cell? ⟨rb, 1, none⟩ = some (.int .i64 y) := hc5))
      have HL5 : Hid _ := hL5
      have HC5 : Hid _ := hc5
      obtain ⟨e50, e51⟩ := hd5
      clear hL5 hc5 d0 d1
      go_wp2_with fail
      go_region_held3 (fun w' => w'.cell? ⟨rb, 0, none⟩ = some (.int .i64 x) ∧ w'.cell? ⟨rb, 1, none⟩ = some (.int .i64 y)) (first | go_keep | assumption)
        ((go_at_call 60; refine (putLayT HL5.out HNE.out HC5.out (at4 + 2) _ y (by have := HO.out; omega)).mono ?_; rintro e w6 ⟨rfl, hL6, hc6⟩; have hd6 : w6.cell? ⟨rb, 0, none⟩ = some (.int .i64 x) ∧ w6.cell? ⟨rb, 1, none⟩ = some (.int .i64 y) := hc6))
      have HL6 : Hid _ := hL6
      rw [HAT.out] at HSN
      rw [← HSN.out] at HL6
      clear hL6 hc6 hd6 e50 e51
      go_wp2
      go_roundw
      case rel => exact ⟨k + 1, by omega, by go_num, HL6.out⟩
      case measure => simp [intOf]; omega
    · obtain rfl : k = rs.length := by omega
      have hR3 := hL.arr.rng
      have hl3 := hL.arr.1
      have hT3 := hL.there
      have HBL : Hid (Below w.heap.size w (wr.setCells (w.heap.size + 1) 0 ((layU N g nx tb rs rs.length).map (Value.int .u8)))) := Below.setCells hL.below (by omega) _ _
      have HRS : Hid _ := Rng8.stored hT3 hl3
      clear hL
      go_wp2_with (first | ((with_reducible refine wpList_load128 hR3 ?_ ?_); exact ⟨rfl, _, rfl, rfl⟩) | ((with_reducible refine wpList_store128 hT3 hl3 ?_ ?_); exact ⟨rfl, _, _, rfl, rfl, rfl⟩))
      exact bodyPost_ret (result_rng Tryz.results105 rfl HRS.out) rfl ⟨rfl, HBL.out⟩
end Go.Proofs.YtfbjagjgofdheaaGreatDoor

namespace Go.Proofs.YtfbjagjgofdheaaGreatDoor
open Go.RowKit
set_option linter.unusedVariables false

/-- a number out of its first k bytes -/
def acc8 (f : Nat → Nat) : Nat → Nat
  | 0 => 0
  | k + 1 => acc8 f k + 256 ^ k * f k
theorem acc8_lt (f : Nat → Nat) (hf : ∀ i, f i < 256) : ∀ k, acc8 f k < 256 ^ k
  | 0 => by simp [acc8]
  | k + 1 => by
    have h1 := acc8_lt f hf k
    have h2 : 256 ^ k * f k ≤ 256 ^ k * 255 := Nat.mul_le_mul_left _ (by have := hf k; omega)
    rw [acc8, Nat.pow_succ]
    omega
theorem or_acc (f : Nat → Nat) (hf : ∀ i, f i < 256) (k : Nat) (hk : k < 8) (h0 : 5 < k → f k = 0) (hz : ∀ i, 5 < i → i < k → f i = 0) :
    IntKind.i64.wrap ((f k : Int) * 2 ^ (8 * k)) = (f k : Int) * 2 ^ (8 * k) ∧ bits .or .i64 (acc8 f k : Int) ((f k : Int) * 2 ^ (8 * k)) = ((acc8 f (k + 1) : Nat) : Int) := by
  have hp : (256 : Nat) ^ k = 2 ^ (8 * k) := by rw [Nat.pow_mul]
  have hb : acc8 f k < 2 ^ 48 := by
    have h6 : acc8 f (min k 6) < 2 ^ 48 := Nat.lt_of_lt_of_le (acc8_lt f hf _) (by
      rw [show (2 : Nat) ^ 48 = 256 ^ 6 by decide]
      exact Nat.pow_le_pow_right (by omega) (Nat.min_le_right _ _))
    have key : ∀ j, 6 + j ≤ k → acc8 f (6 + j) = acc8 f 6 := fun j => by
      induction j with
      | zero => intro _; rfl
      | succ j ih => intro hj; rw [show 6 + (j + 1) = (6 + j) + 1 by omega, acc8, ih (by omega), hz (6 + j) (by omega) (by omega)]; simp
    by_cases h5 : k ≤ 6
    · rwa [Nat.min_eq_left h5] at h6
    · rw [Nat.min_eq_right (by omega)] at h6
      have := key (k - 6) (by omega)
      rw [show 6 + (k - 6) = k by omega] at this
      rw [this]; exact h6
  have hm : f k * 2 ^ (8 * k) < 2 ^ 48 := by
    by_cases h5 : 5 < k
    · rw [h0 h5]; simp
    · have h1 : (2 : Nat) ^ (8 * k) ≤ 2 ^ 40 := Nat.pow_le_pow_right (by omega) (by omega)
      have h2 : f k * 2 ^ (8 * k) ≤ 255 * 2 ^ 40 := Nat.mul_le_mul (by have := hf k; omega) h1
      omega
  have he : (f k : Int) * 2 ^ (8 * k) = ((f k * 2 ^ (8 * k) : Nat) : Int) := by simp
  have hu := or_up (acc8 f k) (f k) (8 * k) (by have := acc8_lt f hf k; rwa [hp] at this)
  have hq := i64_or_nat (acc8 f k) (f k * 2 ^ (8 * k)) (by omega) (by omega)
  rw [he]
  refine ⟨IntWalk.i64_in _ ⟨by omega, by omega⟩, ?_⟩
  rw [hu] at hq
  rw [hq, acc8, hp, Nat.mul_comm (2 ^ (8 * k))]

set_option maxHeartbeats 2000000 in
/-- a number of n bytes, those from the seventh on nought -/
theorem getNumber_eight (f : Nat → Nat) (hf : ∀ i, f i < 256) (n : Nat) (hn : n ≤ 8) (h6 : ∀ i, 5 < i → i < n → f i = 0) (b off c : Nat) (w : World) (hc : ∀ i, i < n → w.cell? ⟨b, off + i, none⟩ = some (.int .u8 (f i : Nat))) :
    Calls Tryz.prog 72 #[.slice (some ⟨b, off, none⟩) n c] w fun e w' => e = .returned (.int .i64 ((acc8 f n : Nat) : Int)) ∧ w = w' := by
  go_enter Tryz.func72, Tryz.ntmps72
  go_wp2_with fail
  go_loopw [3, 4, 5, 8] (fun v _ _ i wr => ∃ k : Nat, k ≤ n ∧ i = .int .i64 k ∧ v = .int .i64 ((acc8 f k : Nat) : Int) ∧ wr = w) (fun _ _ _ i _ => n - (intOf i).toNat)
  case atStart => exact ⟨0, by omega, rfl, rfl, rfl⟩
  case round =>
    obtain ⟨k, hk, rfl, rfl, rfl⟩ := hrel
    by_cases hlt : k < n
    · have hki : (k : Int) < (n : Int) := by omega
      have d0 := hc k hlt
      obtain ⟨o1, o2⟩ := or_acc f hf k (by omega) (fun h => h6 k h hlt) (fun i h1 h2 => h6 i h1 (by omega))
      have b0 := hf k
      rw [IntKind.wrap_i64] at o1
      clear hc h6 hf
      obtain ⟨A1, HA1⟩ : ∃ A1, Hid (A1 = acc8 f (k + 1)) := ⟨_, rfl⟩
      obtain ⟨A0, HA0⟩ : ∃ A0, Hid (A0 = acc8 f k) := ⟨_, rfl⟩
      rw [← HA1.out, ← HA0.out] at o2
      rw [← HA0.out]
      generalize f k = y at *
      go_wp2_with fail
      exact ⟨⟨k + 1, by omega, by go_num, by rw [HA1.out], trivial⟩, by simp [intOf]; omega⟩
    · have hki : ¬ (k : Int) < (n : Int) := by omega
      obtain rfl : k = n := by omega
      go_wp2
      go_ret
      exact ⟨rfl, rfl⟩

/-- the number of n bytes at off -/
def accW (zs : List Int) (off n : Nat) : Int := ((acc8 (fun i => (zs.getD (off + i) 0).toNat) n : Nat) : Int)
theorem accW_two (zs : List Int) (off : Nat) (h0 : 0 ≤ zs.getD off 0) (h1 : 0 ≤ zs.getD (off + 1) 0) : accW zs off 2 = le2 zs off := by
  unfold accW le2
  simp only [acc8, Nat.add_zero, Nat.zero_add, Nat.pow_zero, Nat.one_mul, Nat.pow_one]
  omega
theorem getNumber_W {W : World} {g : Nat} {t : TypeId} {zs : List Int} (hz : ∀ i, 0 ≤ zs.getD i 0 ∧ zs.getD i 0 < 256) (h : W.heap[g]? = some (.cells (u8s zs) t (0, 0))) (off n c : Nat) (ho : off + n ≤ zs.length) (hn : n = 2 ∨ n = 8 ∧ zs.getD (off + 6) 0 = 0 ∧ zs.getD (off + 7) 0 = 0) :
    Calls Tryz.prog 72 #[.slice (some ⟨g, off, none⟩) n c] W.drew fun e w' => e = .returned (.int .i64 (accW zs off n)) ∧ W.drew = w' := by
  rcases hn with rfl | ⟨rfl, h6, h7⟩
  · rw [accW_two _ _ (hz _).1 (hz _).1]
    exact getNumber_row hz h off c (by omega)
  · refine getNumber_eight (fun i => (zs.getD (off + i) 0).toNat) (fun i => by have := hz (off + i); omega) 8 (by omega) (fun i h1 h2 => ?_) g off c W.drew (fun i hi => ?_)
    · rcases (by omega : i = 6 ∨ i = 7) with rfl | rfl
      · simp only [h6]; rfl
      · simp only [h7]; rfl
    have e : W.cell? ⟨g, off + i, none⟩ = some (.int .u8 (zs.getD (off + i) 0)) := by
      rw [cell_of_row W g (off + i) _ t _ h]
      simp [u8s, show off + i < zs.length by omega]
    have q := hz (off + i)
    rw [show (((zs.getD (off + i) 0).toNat : Nat) : Int) = zs.getD (off + i) 0 by omega]
    exact e
end Go.Proofs.YtfbjagjgofdheaaGreatDoor
