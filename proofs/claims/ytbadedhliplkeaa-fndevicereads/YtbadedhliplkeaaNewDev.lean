import Derived.Test.YtbadedhliplkeaaMark
namespace Go.Proofs.Ytbadedhliplkeaa
open Go.RowKit

/-- least ≤ value ≤ most, as the program answers it -/
def inB (v lo hi : Int) : Bool := decide (lo ≤ v ∧ v ≤ hi)
theorem inB_true {v lo hi : Int} (h : lo ≤ v ∧ v ≤ hi) : inB v lo hi = true := by simp [inB, h]
theorem inB_false {v lo hi : Int} (h : ¬ (lo ≤ v ∧ v ≤ hi)) : inB v lo hi = false := by simp only [inB]; exact decide_eq_false h

set_option maxHeartbeats 400000 in
theorem within_any (v lo hi : Int) (w : World) :
    Calls Try.prog 32 #[.int .i64 v, .int .i64 lo, .int .i64 hi] w fun e w' => e = .returned (.bool (inB v lo hi)) ∧ w = w' := by
  by_cases h1 : lo ≤ v
  · by_cases h2 : v ≤ hi
    · rw [inB_true ⟨h1, h2⟩]
      go_enter Try.func32, Try.ntmps32
      go_wp2
      go_ret
      exact ⟨rfl, rfl⟩
    · rw [inB_false (by omega)]
      go_enter Try.func32, Try.ntmps32
      go_wp2
      go_ret
      exact ⟨rfl, rfl⟩
  · rw [inB_false (by omega)]
    go_enter Try.func32, Try.ntmps32
    go_wp2
    go_ret
    exact ⟨rfl, rfl⟩

set_option maxHeartbeats 400000 in
theorem l1BlocksOK_any (v : Int) (w : World) :
    Calls Try.prog 31 #[.int .i64 v] w fun e w' => e = .returned (.bool (inB v 8 512)) ∧ w = w' := by
  by_cases h1 : 8 ≤ v
  · by_cases h2 : v ≤ 512
    · rw [inB_true ⟨h1, h2⟩]
      go_enter Try.func31, Try.ntmps31
      go_wp2
      go_ret
      exact ⟨rfl, rfl⟩
    · rw [inB_false (by omega)]
      go_enter Try.func31, Try.ntmps31
      go_wp2
      go_ret
      exact ⟨rfl, rfl⟩
  · rw [inB_false (by omega)]
    go_enter Try.func31, Try.ntmps31
    go_wp2
    go_ret
    exact ⟨rfl, rfl⟩

/-- the disk of a new device -/
def filled (zs : List Int) (n : Nat) : List Int := (List.range n).map fun (i : Nat) => zs.getD (i % zs.length) 0

theorem filled_length (zs : List Int) (n : Nat) : (filled zs n).length = n := by simp [filled]
theorem filled_small (zs : List Int) (n : Nat) (h : ∀ i, 0 ≤ zs.getD i 0 ∧ zs.getD i 0 < 256) (i : Nat) : 0 ≤ (filled zs n).getD i 0 ∧ (filled zs n).getD i 0 < 256 := by
  by_cases hi : i < n
  · have := h (i % zs.length)
    simp only [filled, List.getD_eq_getElem?_getD, List.getElem?_map, List.getElem?_range hi, Option.map_some, Option.getD_some] at this ⊢
    exact this
  · simp [filled, hi]
theorem filled_snoc (zs : List Int) (n : Nat) : filled zs (n + 1) = filled zs n ++ [zs.getD (n % zs.length) 0] := by
  simp [filled, List.range_succ]

set_option maxHeartbeats 400000 in
theorem specNew_no (B : Int) (v : Value) (w : World) (hB : ¬ (8 ≤ B ∧ B ≤ 512)) :
    Calls Try.prog 9 #[.int .i64 B, v] w fun e w' => e = .returned (.tuple #[.agg #[.int .i64 0, .slice none 0 0, .slice none 0 0], .int .i64 1]) ∧ Below w.heap.size w w' := by
  have hb := inB_false hB
  go_enter Try.func9, Try.ntmps9
  go_wp2_with fail
  refine (l1BlocksOK_any _ _).mono ?_
  rintro e w' ⟨rfl, rfl⟩
  go_wp2
  exact bodyPost_ret (v := .tuple #[.agg #[.int .i64 0, .slice none 0 0, .slice none 0 0], .int .i64 1]) (by simp [results, Try.results9, go_sem]) rfl ⟨rfl, (Below.refl _ _).alloc (Nat.le_refl _) _⟩

/-- the zero device -/
def dev0 : Obj := .cells #[.int .i64 0, .slice none 0 0, .slice none 0 0] 25

/-- the answer's struct is filled -/
theorem dev_stored {w wr : World} {u : Value} {zs : List Int} (hbel : Below (w.heap.size + 1) (w.alloc dev0) wr) (ho : Own8 (w.heap.size + 1) wr.heap.size wr u zs) (x y z : Value) :
    Own8 w.heap.size (((wr.setCell ⟨w.heap.size, 0, none⟩ x).setCell ⟨w.heap.size, 1, none⟩ y).setCell ⟨w.heap.size, 2, none⟩ z).heap.size (((wr.setCell ⟨w.heap.size, 0, none⟩ x).setCell ⟨w.heap.size, 1, none⟩ y).setCell ⟨w.heap.size, 2, none⟩ z) u zs ∧
      Below w.heap.size w (((wr.setCell ⟨w.heap.size, 0, none⟩ x).setCell ⟨w.heap.size, 1, none⟩ y).setCell ⟨w.heap.size, 2, none⟩ z) := by
  have h1 : Upd w.heap.size (w.heap.size + 1) wr (wr.setCell ⟨w.heap.size, 0, none⟩ x) := (Upd.refl _ _ _).setCell (p := ⟨w.heap.size, 0, none⟩) (Nat.le_refl _) (Nat.lt_succ_self _) x
  have h2 := h1.setCell (p := ⟨w.heap.size, 1, none⟩) (Nat.le_refl _) (Nat.lt_succ_self _) y
  have h3 := h2.setCell (p := ⟨w.heap.size, 2, none⟩) (Nat.le_refl _) (Nat.lt_succ_self _) z
  have hb0 : Below w.heap.size w wr := ((Below.refl _ _).alloc (Nat.le_refl _) _).trans (hbel.mono (Nat.le_succ _))
  refine ⟨(ho.upd h3 (.inr (Nat.le_refl _))).wider (Nat.le_succ _) (by simp), hb0.trans (h3.below (Nat.le_refl _) ?_)⟩
  have := hbel.size
  simp at this; omega

set_option maxHeartbeats 1000000 in
theorem specNew_yes (B : Int) (v : Value) (zs : List Int) (w : World) (hB : 8 ≤ B ∧ B ≤ 512) (hv : Bts w v zs) (hn : zs.length ≤ 281474976710656) :
    Calls Try.prog 9 #[.int .i64 B, v] w fun e w' => ∃ u, e = .returned (.tuple #[.agg #[.int .i64 B, u, .slice none 0 0], .int .i64 0]) ∧ Own8 w.heap.size w'.heap.size w' u (filled zs (B * 128).toNat) ∧ Below w.heap.size w w' := by
  have hb := inB_true hB
  obtain ⟨n, rfl⟩ := Int.eq_ofNat_of_zero_le (show 0 ≤ B by omega)
  obtain ⟨a, cap, rfl, hc⟩ := hv.shape
  have HT : Hid (((n : Int) * 128).toNat = n * 128) := (by omega : ((n : Int) * 128).toNat = n * 128)
  go_enter Try.func9, Try.ntmps9
  go_wp2_with fail
  refine (l1BlocksOK_any _ _).mono ?_
  rintro e w' ⟨rfl, rfl⟩
  go_wp2
  go_loopw [6, 7, 8] (fun u i _ wr => ∃ k : Nat, k ≤ n * 128 ∧ i = .int .i64 k ∧ Row8 (w.heap.size + 1) wr u (filled zs k) ∧ Below (w.heap.size + 1) (w.alloc dev0) wr)
    (fun _ i _ _ => n * 128 - (intOf i).toNat)
  case atStart => exact ⟨0, Nat.zero_le _, rfl, Row8.lit _ _ (by simp) _ (by simp), (Below.refl _ _).alloc (by simp) _⟩
  case round =>
    obtain ⟨k, hk, rfl, hown, hbel⟩ := hrel
    obtain ⟨ua, uc, hua⟩ := hown.shape
    subst hua
    have hsz : w.heap.size + 1 ≤ wr.heap.size := by have := hbel.size; simpa using this
    have hfl : (filled zs k).length < 140737488355328 := by rw [filled_length]; omega
    by_cases hlt : k < n * 128
    · have hlt' : (k : Int) < (n : Int) * 128 := by omega
      have HF : Hid (filled zs (k + 1) = filled zs k ++ [zs.getD (k % zs.length) 0]) := filled_snoc zs k
      by_cases hz : 0 < zs.length
      · obtain ⟨b, off, rfl, hcell⟩ := hc hz
        have hbw : b < w.heap.size := World.block_lt_of_cell? _ _ (hcell 0 hz)
        have hmod : k % zs.length < zs.length := Nat.mod_lt _ hz
        have g1 : wr.cell? ⟨b, off + k % zs.length, none⟩ = some (.int .u8 (zs.getD (k % zs.length) 0)) := by
          rw [hbel.cell (p := ⟨b, off + k % zs.length, none⟩) (by show b < w.heap.size + 1; omega), dev0, World.cell?_alloc_past _ _ _ hbw]
          exact hcell _ hmod
        have HG : Hid (zs[k % zs.length] = zs.getD (k % zs.length) 0) := by simp [Hid, hmod]
        clear hc hcell
        go_wp2_with (first | (at_builtin; refine wpList_append8 rfl _ _ rfl _ hown rfl rfl hfl hsz ?_; intro v' w1 hown1 hbel1 hsz1 hgr1) | go_in)
        rw [HG.out, ← HF.out] at hown1
        go_roundw
        case rel => exact ⟨k + 1, by omega, by go_num, hown1, hbel.trans hbel1⟩
        case measure => simp [intOf]; omega
      · have hz0 : zs = [] := List.eq_nil_of_length_eq_zero (by omega)
        subst hz0
        clear hc
        go_wp2_with (first | (at_builtin; refine wpList_append8 rfl _ _ rfl _ hown rfl rfl hfl hsz ?_; intro v' w1 hown1 hbel1 hsz1 hgr1) | go_in)
        rw [show [(0 : Int)] = [([] : List Int).getD (k % ([] : List Int).length) 0] from rfl, ← HF.out] at hown1
        go_roundw
        case rel => first | exact ⟨k + 1, by omega, by go_num, hown1, hbel.trans hbel1⟩ | ((repeat apply Exists.intro); exact ⟨⟨k + 1, by omega, by go_num, hown1, hbel.trans hbel1⟩, rfl⟩)
        case measure => simp [intOf]; omega
    · have hke : k = n * 128 := by omega
      have ho := hown.own (filled_small zs k hv.small)
      have HR : Hid (filled zs k = filled zs ((n : Int) * 128).toNat) := by rw [HT.out, hke]; rfl
      have g0 : wr.cell? ⟨w.heap.size, 0, none⟩ = some (.int .i64 0) := by rw [hbel.cell (p := ⟨w.heap.size, 0, none⟩) (Nat.lt_succ_self _)]; exact World.cell?_alloc_at _ _ _ _ rfl
      have g1 : wr.cell? ⟨w.heap.size, 1, none⟩ = some (.slice none 0 0) := by rw [hbel.cell (p := ⟨w.heap.size, 1, none⟩) (Nat.lt_succ_self _)]; exact World.cell?_alloc_at _ _ _ _ rfl
      have g2 : wr.cell? ⟨w.heap.size, 2, none⟩ = some (.slice none 0 0) := by rw [hbel.cell (p := ⟨w.heap.size, 2, none⟩) (Nat.lt_succ_self _)]; exact World.cell?_alloc_at _ _ _ _ rfl
      have f0 : ∀ j, wr.frozen? ⟨w.heap.size, j, none⟩ = false := fun j => by rw [hbel.frozen (p := ⟨w.heap.size, j, none⟩) (Nat.lt_succ_self _)]; exact World.frozen?_alloc_at _ _ _ _ rfl
      clear hke hc hown
      go_wp2
      refine bodyPost_ret (v := .tuple #[.agg #[.int .i64 n, .slice ua (filled zs k).length uc, .slice none 0 0], .int .i64 0]) (by simp [results, Try.results9, go_sem, g0, g1, g2]) rfl ⟨_, rfl, ?_, ?_⟩
      · rw [← HR.out]; exact (dev_stored hbel ho _ _ _).1
      · exact (dev_stored hbel ho _ _ _).2

theorem filled_nil (n : Nat) : filled [] n = List.replicate n 0 := by
  apply List.ext_getElem?
  intro i
  by_cases h : i < n <;> simp [filled, h]

theorem part8_nil (n : Nat) : part8 (filled [] n) 0 = u8s (filled [] n) := by
  unfold part8
  rw [filled_length, filled_nil]; simp

theorem filled_get (zs : List Int) (n k : Nat) (h : k < n) : (filled zs n).getD k 0 = zs.getD (k % zs.length) 0 := by
  simp [filled, h]

set_option maxHeartbeats 400000 in
theorem implNew_no (B : Int) (v : Value) (w : World) (hB : ¬ (8 ≤ B ∧ B ≤ 512)) :
    Calls Try.prog 11 #[.int .i64 B, v] w fun e w' => e = .returned (.tuple #[.agg #[.int .i64 0, .slice none 0 0, .slice none 0 0], .int .i64 1]) ∧ Below w.heap.size w w' := by
  have hb := inB_false hB
  go_enter Try.func11, Try.ntmps11
  go_wp2_with fail
  refine (within_any _ _ _ _).mono ?_
  rintro e w' ⟨rfl, rfl⟩
  go_wp2
  exact bodyPost_ret (v := .tuple #[.agg #[.int .i64 0, .slice none 0 0, .slice none 0 0], .int .i64 1]) (by simp [results, Try.results11, go_sem]) rfl ⟨rfl, (Below.refl _ _).alloc (Nat.le_refl _) _⟩

/-- the world behind impl.NewDevice -/
theorem newdev_end (w : World) (zs : List Int) (N : Nat) (h : ∀ i, 0 ≤ zs.getD i 0 ∧ zs.getD i 0 < 256) (u : Value) (o1 o2 : Obj) (hu : u = .slice (some ⟨w.heap.size + 1, 0, none⟩) N N) (ho2 : o2 = .cells (u8s (filled zs N)) 5) :
    Own8 w.heap.size ((w.alloc o1).alloc o2).heap.size ((w.alloc o1).alloc o2) u (filled zs N) ∧ Below w.heap.size w ((w.alloc o1).alloc o2) := by
  subst hu ho2
  have := Own8.made (w.alloc o1) (filled zs N) (filled_small zs N h) (w.heap.size + 1) (by simp)
  rw [filled_length] at this
  exact ⟨this.wider (by omega) (by simp), ((Below.refl _ _).alloc (Nat.le_refl _) _).alloc (by simp) _⟩

set_option maxHeartbeats 1000000 in
theorem implNew_yes (B : Int) (v : Value) (zs : List Int) (w : World) (hB : 8 ≤ B ∧ B ≤ 512) (hv : Bts w v zs) (hn : zs.length ≤ 281474976710656) :
    Calls Try.prog 11 #[.int .i64 B, v] w fun e w' => ∃ u, e = .returned (.tuple #[.agg #[.int .i64 B, u, .slice none 0 0], .int .i64 0]) ∧ Own8 w.heap.size w'.heap.size w' u (filled zs (B * 128).toNat) ∧ Below w.heap.size w w' := by
  have hb := inB_true hB
  obtain ⟨n, rfl⟩ := Int.eq_ofNat_of_zero_le (show 0 ≤ B by omega)
  obtain ⟨a, cap, rfl, hc⟩ := hv.shape
  have HT : Hid (((n : Int) * 128).toNat = n * 128) := (by omega : ((n : Int) * 128).toNat = n * 128)
  have hmk := run_make_row' (P := Try.prog) 22 5 (.int .u8 0) 1 Try.underlying22 info8 rfl .i64 .i64 (filled zs (n * 128)).length (by rw [filled_length]; omega) (by rw [filled_length]; omega)
  rw [part8_zero, filled_length, show ((n * 128 : Nat) : Int) = (n : Int) * 128 from by omega] at hmk
  by_cases hz : 0 < zs.length
  · obtain ⟨b, off, rfl, hcell⟩ := hc hz
    have hbw : b < w.heap.size := World.block_lt_of_cell? _ _ (hcell 0 hz)
    clear hc
    go_enter Try.func11, Try.ntmps11
    go_wp2_with fail
    refine (within_any _ _ _ _).mono ?_
    rintro e w' ⟨rfl, rfl⟩
    go_wp2
    go_loopw [7, 20] (fun _ i wr => ∃ k : Nat, k ≤ n * 128 ∧ i = .int .i64 k ∧ wr = (w.alloc dev0).alloc (.cells (part8 (filled zs (n * 128)) k) 5)) (fun _ i _ => n * 128 - (intOf i).toNat)
    case atStart => exact ⟨0, Nat.zero_le _, rfl, rfl⟩
    case round =>
      obtain ⟨k, hk, rfl, rfl⟩ := hrel
      clear hmk
      unfold dev0
      by_cases hlt : k < n * 128
      · have hlt' : (k : Int) < (n : Int) * 128 := by omega
        have hlf : k < (filled zs (n * 128)).length := by rw [filled_length]; exact hlt
        have hmod : k % zs.length < zs.length := Nat.mod_lt _ hz
        have g1 : ((w.alloc (.cells #[.int .i64 0, .slice none 0 0, .slice none 0 0] 25)).alloc (.cells (part8 (filled zs (n * 128)) k) 5)).cell? ⟨b, off + k % zs.length, none⟩ = some (.int .u8 (zs.getD (k % zs.length) 0)) := by
          rw [World.cell?_alloc_past _ _ _ (by simp; omega), World.cell?_alloc_past _ _ _ hbw]
          exact hcell _ hmod
        have g2 : ((w.alloc (.cells #[.int .i64 0, .slice none 0 0, .slice none 0 0] 25)).alloc (.cells (part8 (filled zs (n * 128)) k) 5)).cell? ⟨w.heap.size + 1, k, none⟩ = some (.int .u8 0) :=
          (World.cell?_alloc_at _ _ _ _ (by simp)).trans (part8_get _ k hlf)
        have HS : Hid ((part8 (filled zs (n * 128)) k).setIfInBounds k (.int .u8 (zs.getD (k % zs.length) 0)) = part8 (filled zs (n * 128)) (k + 1)) := by
          rw [← filled_get zs (n * 128) k hlt]; exact part8_step _ k hlf
        clear hcell hlf
        go_wp2
        go_roundw
        case rel => exact ⟨k + 1, by omega, by go_num, by rw [← HS.out]; simp [hmod]⟩
        case measure => simp [intOf]; omega
      · have HK : Hid (part8 (filled zs (n * 128)) k = u8s (filled zs (n * 128))) := by
          have := part8_end (filled zs (n * 128))
          rw [filled_length] at this
          rw [show k = n * 128 by omega]; exact this
        clear hcell
        go_wp2
        refine bodyPost_ret (v := .tuple #[.agg #[.int .i64 n, .slice (some ⟨w.heap.size + 1, 0, none⟩) (n * 128) (n * 128), .slice none 0 0], .int .i64 0]) (by simp [results, Try.results11, go_sem]) rfl ⟨_, rfl, ?_⟩
        rw [HT.out, HK.out]
        exact newdev_end w zs _ hv.small _ _ _ rfl rfl
  · have hz0 : zs = [] := List.eq_nil_of_length_eq_zero (by omega)
    subst hz0
    clear hc
    go_enter Try.func11, Try.ntmps11
    go_wp2_with fail
    refine (within_any _ _ _ _).mono ?_
    rintro e w' ⟨rfl, rfl⟩
    go_wp2
    refine bodyPost_ret (v := .tuple #[.agg #[.int .i64 n, .slice (some ⟨w.heap.size + 1, 0, none⟩) (n * 128) (n * 128), .slice none 0 0], .int .i64 0]) (by simp [results, Try.results11, go_sem]) rfl ⟨_, rfl, ?_⟩
    rw [HT.out, part8_nil]
    exact newdev_end w [] _ hv.small _ _ _ rfl rfl
end Go.Proofs.Ytbadedhliplkeaa
