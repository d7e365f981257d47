import Derived.Test.YtbadedhliplkeaaToDev2
import Derived.Test.YtbadedhliplkeaaNewDev
namespace Go.Proofs.Ytbadedhliplkeaa
open Go.RowKit

/-- an element of the cache is valid -/
def pOK (B : Int) (p : Int × List Int) : Bool := decide (0 ≤ p.1 ∧ p.1 < B ∧ p.2.length = 128)
/-- a device is valid -/
def dOK (B : Int) (zs : List Int) (ps : List (Int × List Int)) : Bool := decide (8 ≤ B ∧ B ≤ 512 ∧ (zs.length : Int) = B * 128 ∧ ps.length ≤ 2048 ∧ ∀ i, i < ps.length → pOK B (ps.getD i (0, [])) = true)

theorem dOK_true {B : Int} {zs : List Int} {ps : List (Int × List Int)} (h : 8 ≤ B ∧ B ≤ 512 ∧ (zs.length : Int) = B * 128 ∧ ps.length ≤ 2048 ∧ ∀ i, i < ps.length → pOK B (ps.getD i (0, [])) = true) : dOK B zs ps = true := decide_eq_true h
theorem dOK_false {B : Int} {zs : List Int} {ps : List (Int × List Int)} (h : ¬ (8 ≤ B ∧ B ≤ 512 ∧ (zs.length : Int) = B * 128 ∧ ps.length ≤ 2048 ∧ ∀ i, i < ps.length → pOK B (ps.getD i (0, [])) = true)) : dOK B zs ps = false := decide_eq_false h
theorem dOK_out {B : Int} {zs : List Int} {ps : List (Int × List Int)} (h : dOK B zs ps = true) : 8 ≤ B ∧ B ≤ 512 ∧ (zs.length : Int) = B * 128 ∧ ps.length ≤ 2048 ∧ ∀ i, i < ps.length → pOK B (ps.getD i (0, [])) = true := of_decide_eq_true h
theorem pOK_true {B q : Int} {zs : List Int} (h : 0 ≤ q ∧ q < B ∧ zs.length = 128) : pOK B (q, zs) = true := decide_eq_true h
theorem pOK_false {B q : Int} {zs : List Int} (h : ¬ (0 ≤ q ∧ q < B ∧ zs.length = 128)) : pOK B (q, zs) = false := decide_eq_false h

/-- a device value, written out -/
def dV (B : Int) (da : Option Addr) (n dc : Nat) (ca : Option Addr) (m cc : Nat) : Value := .agg #[.int .i64 B, .slice da n dc, .slice ca m cc]

set_option maxHeartbeats 400000 in
theorem has_any (B q : Int) (x y : Value) (w : World) (h1 : 1 ≤ B) (h2 : B ≤ 512) :
    Calls Try.prog 49 #[.agg #[.int .i64 B, x, y], .int .i64 q] w fun e w' => e = .returned (.bool (inB q 0 (B - 1))) ∧ Below w.heap.size w w' := by
  have hb := (Below.refl w.heap.size w).alloc (Nat.le_refl _) (.cells #[.int .i64 B, x, y] 25)
  go_enter Try.func49, Try.ntmps49
  go_wp2_with fail
  refine (within_any _ _ _ _).mono ?_
  rintro e w' ⟨rfl, rfl⟩
  go_wp2
  go_ret
  exact ⟨rfl, hb⟩

set_option maxHeartbeats 1000000 in
theorem valid_any (B : Int) (v : Value) (zs : List Int) (ps : List (Int × List Int)) (w : World) (h : DRead w v B zs ps) (_hz : zs.length ≤ 1048576) (hn : ps.length ≤ 1048576) (hn2 : ∀ i, (ps.getD i (0, [])).2.length ≤ 1048576) :
    Calls Try.prog 44 #[v] w fun e w' => e = .returned (.bool (dOK B zs ps)) ∧ Below w.heap.size w w' := by
  obtain ⟨da, dc, ca, cc, rfl, k1, k2⟩ := h
  have hb0 := (Below.refl w.heap.size w).alloc (Nat.le_refl _) (.cells #[.int .i64 B, .slice da zs.length dc, .slice ca ps.length cc] 25)
  by_cases hB : 8 ≤ B ∧ B ≤ 512
  · have hib := inB_true hB
    by_cases hzl : (zs.length : Int) = B * 128
    · have hzl' : ((zs.length : Int) != B * 128) = false := by simpa using hzl
      have HZ : Hid ((zs.length : Int) = B * 128) := hzl
      clear hzl
      by_cases hm : ps.length ≤ 2048
      · have hc := k2.below hb0
        obtain ⟨_, _, he, hc⟩ := hc
        simp only [Value.slice.injEq, true_and] at he
        obtain ⟨rfl, rfl⟩ := he
        have hm' : (ps.length : Int) ≤ 2048 := by omega
        have hBx := Box3.made w (.int .i64 B) (.slice da zs.length dc) (.slice ca ps.length cc) 25 _ rfl
        go_enter Try.func44, Try.ntmps44
        go_wp2_with fail
        refine (within_any _ _ _ _).mono ?_
        rintro e w' ⟨rfl, rfl⟩
        go_wp2
        go_loopw [4, 25] (fun _ i wr => ∃ k : Nat, k ≤ ps.length ∧ i = .int .i64 k ∧ Below (w.heap.size + 1) (w.alloc (.cells #[.int .i64 B, .slice da zs.length dc, .slice ca ps.length cc] 25)) wr ∧ ∀ j, j < k → pOK B (ps.getD j (0, [])) = true) (fun _ i _ => ps.length - (intOf i).toNat)
        case atStart => exact ⟨0, Nat.zero_le _, rfl, Below.refl _ _, fun j hj => absurd hj (Nat.not_lt_zero _)⟩
        case round =>
          obtain ⟨k, hk, rfl, hb1, hall⟩ := hrel
          have hsz : w.heap.size + 1 ≤ wr.heap.size := by have := hb1.size; simpa using this
          have hb2 : Below w.heap.size w wr := hb0.trans (hb1.mono (by omega))
          have hlt0 : w.heap.size < wr.heap.size := by omega
          by_cases hlt : k < ps.length
          · obtain ⟨b, off, rfl, hcell⟩ := hc (by omega)
            obtain ⟨ea, ec, g1, g2, -⟩ := hcell k hlt
            have hbw := World.block_lt_of_cell? _ _ g1
            have hbw' : b < w.heap.size + 1 := by simpa using hbw
            rw [← hb1.cell (p := ⟨b, off + k * 2, none⟩) hbw'] at g1
            rw [← hb1.cell (p := ⟨b, off + k * 2 + 1, none⟩) hbw'] at g2
            obtain ⟨c0, c1, c2⟩ := hBx.cells
            rw [← hb1.cell (p := ⟨w.heap.size, 0, none⟩) (Nat.lt_succ_self _)] at c0
            rw [← hb1.cell (p := ⟨w.heap.size, 1, none⟩) (Nat.lt_succ_self _)] at c1
            rw [← hb1.cell (p := ⟨w.heap.size, 2, none⟩) (Nat.lt_succ_self _)] at c2
            have hn3 := hn2 k
            have HN : Hid (∀ h : pOK B (ps.getD k (0, [])) = false, dOK B zs ps = false) := fun h => dOK_false (fun hh => by rw [hh.2.2.2.2 k hlt] at h; cases h)
            have HY : Hid (∀ h : pOK B (ps.getD k (0, [])) = true, ∀ j, j < k + 1 → pOK B (ps.getD j (0, [])) = true) := fun h j hj => by
              by_cases hjk : j = k
              · rw [hjk]; exact h
              · exact hall j (by omega)
            clear hcell hall
            generalize ps.getD k (0, []) = p at g1 g2 hn3 HN HY
            obtain ⟨q, ds⟩ := p
            simp only at g1 g2 hn3
            have hbA := (belowA wr (.cells #[.int .i64 q, .slice ea ds.length ec] 38))
            by_cases hq : 0 ≤ q ∧ q ≤ B - 1
            · have hiq := inB_true hq
              by_cases hd : ds.length = 128
              · have hd' : ((ds.length : Int) != 128) = false := by simp; omega
                have hY := HY.out (pOK_true ⟨hq.1, by omega, hd⟩)
                clear HN HY hd
                go_wp2_with fail
                refine (has_any _ _ _ _ _ (by omega) hB.2).mono ?_
                rintro e w2 ⟨rfl, hb3⟩
                have hb4 := hb1.trans ((hbA.mono hsz).trans (hb3.mono (by simp; omega)))
                have c3 : w2.cell? ⟨wr.heap.size, 1, none⟩ = some (.slice ea ds.length ec) := (hb3.cell (p := ⟨wr.heap.size, 1, none⟩) (by simp)).trans (World.cell?_alloc_at _ _ _ _ rfl)
                clear hb3 hbA hb1 g1 g2 c0 c1 c2
                go_wp2
                go_roundw
                case rel => exact ⟨k + 1, by omega, by go_num, hb4, hY⟩
                case measure => simp [intOf]; omega
              · have hd' : ((ds.length : Int) != 128) = true := by simp; omega
                have hN := HN.out (pOK_false (by omega))
                clear HN HY hd
                go_wp2_with fail
                refine (has_any _ _ _ _ _ (by omega) hB.2).mono ?_
                rintro e w2 ⟨rfl, hb3⟩
                have hb4 := hb2.trans ((hbA.mono hb2.size).trans (hb3.mono (by simp; omega)))
                have c3 : w2.cell? ⟨wr.heap.size, 1, none⟩ = some (.slice ea ds.length ec) := (hb3.cell (p := ⟨wr.heap.size, 1, none⟩) (by simp)).trans (World.cell?_alloc_at _ _ _ _ rfl)
                clear hb3 hbA hb1 g1 g2 c0 c1 c2
                go_wp2
                go_ret
                exact ⟨by rw [hN]; rfl, hb4⟩
            · have hiq := inB_false hq
              have hN := HN.out (pOK_false (by omega))
              clear HN HY
              go_wp2_with fail
              refine (has_any _ _ _ _ _ (by omega) hB.2).mono ?_
              rintro e w2 ⟨rfl, hb3⟩
              have hb4 := hb2.trans ((hbA.mono hb2.size).trans (hb3.mono (by simp; omega)))
              clear hb3 hbA hb1 g1 g2 c0 c1 c2
              go_wp2
              go_ret
              exact ⟨by rw [hN]; rfl, hb4⟩
          · have hT : dOK B zs ps = true := dOK_true ⟨hB.1, hB.2, HZ.out, hm, fun i hi => hall i (by omega)⟩
            clear hc
            go_wp2
            go_ret
            exact ⟨by rw [hT]; rfl, hb2⟩
      · have hf : dOK B zs ps = false := dOK_false (by omega)
        have hm' : (2048 : Int) < (ps.length : Int) := by omega
        go_enter Try.func44, Try.ntmps44
        go_wp2_with fail
        refine (within_any _ _ _ _).mono ?_
        rintro e w' ⟨rfl, rfl⟩
        go_wp2
        go_ret
        exact ⟨by rw [hf]; rfl, hb0⟩
    · have hf : dOK B zs ps = false := dOK_false (by omega)
      have hzl' : ((zs.length : Int) != B * 128) = true := by simpa using hzl
      go_enter Try.func44, Try.ntmps44
      go_wp2_with fail
      refine (within_any _ _ _ _).mono ?_
      rintro e w' ⟨rfl, rfl⟩
      go_wp2
      go_ret
      exact ⟨by rw [hf]; rfl, hb0⟩
  · have hf : dOK B zs ps = false := dOK_false (by omega)
    have hib := inB_false hB
    go_enter Try.func44, Try.ntmps44
    go_wp2_with fail
    refine (within_any _ _ _ _).mono ?_
    rintro e w' ⟨rfl, rfl⟩
    go_wp2
    go_ret
    exact ⟨by rw [hf]; rfl, hb0⟩

set_option maxHeartbeats 1000000 in
theorem l1Valid_any (B : Int) (v : Value) (zs : List Int) (ps : List (Int × List Int)) (w : World) (h : DRead w v B zs ps) (_hz : zs.length ≤ 1048576) (hn : ps.length ≤ 1048576) (hn2 : ∀ i, (ps.getD i (0, [])).2.length ≤ 1048576) :
    Calls Try.prog 41 #[v] w fun e w' => e = .returned (.bool (dOK B zs ps)) ∧ Below w.heap.size w w' := by
  obtain ⟨da, dc, ca, cc, rfl, k1, k2⟩ := h
  have hb0 := (Below.refl w.heap.size w).alloc (Nat.le_refl _) (.cells #[.int .i64 B, .slice da zs.length dc, .slice ca ps.length cc] 25)
  by_cases hB : 8 ≤ B ∧ B ≤ 512
  · have hib := inB_true hB
    by_cases hzl : (zs.length : Int) = B * 128
    · have hzl' : ((zs.length : Int) != B * 128) = false := by simpa using hzl
      have HZ : Hid ((zs.length : Int) = B * 128) := hzl
      clear hzl
      by_cases hm : ps.length ≤ 2048
      · have hc := k2.below hb0
        obtain ⟨_, _, he, hc⟩ := hc
        simp only [Value.slice.injEq, true_and] at he
        obtain ⟨rfl, rfl⟩ := he
        have hm' : (ps.length : Int) ≤ 2048 := by omega
        have hBx := Box3.made w (.int .i64 B) (.slice da zs.length dc) (.slice ca ps.length cc) 25 _ rfl
        go_enter Try.func41, Try.ntmps41
        go_wp2_with fail
        refine (l1BlocksOK_any _ _).mono ?_
        rintro e w' ⟨rfl, rfl⟩
        go_wp2
        go_loopw [3, 4] (fun i _ wr => ∃ k : Nat, k ≤ ps.length ∧ i = .int .i64 k ∧ Below (w.heap.size + 1) (w.alloc (.cells #[.int .i64 B, .slice da zs.length dc, .slice ca ps.length cc] 25)) wr ∧ ∀ j, j < k → pOK B (ps.getD j (0, [])) = true) (fun i _ _ => ps.length - (intOf i).toNat)
        case atStart => exact ⟨0, Nat.zero_le _, rfl, Below.refl _ _, fun j hj => absurd hj (Nat.not_lt_zero _)⟩
        case round =>
          obtain ⟨k, hk, rfl, hb1, hall⟩ := hrel
          have hsz : w.heap.size + 1 ≤ wr.heap.size := by have := hb1.size; simpa using this
          have hb2 : Below w.heap.size w wr := hb0.trans (hb1.mono (by omega))
          have hlt0 : w.heap.size < wr.heap.size := by omega
          obtain ⟨c0, c1, c2⟩ := hBx.cells
          rw [← hb1.cell (p := ⟨w.heap.size, 0, none⟩) (Nat.lt_succ_self _)] at c0
          rw [← hb1.cell (p := ⟨w.heap.size, 1, none⟩) (Nat.lt_succ_self _)] at c1
          rw [← hb1.cell (p := ⟨w.heap.size, 2, none⟩) (Nat.lt_succ_self _)] at c2
          by_cases hlt : k < ps.length
          · obtain ⟨b, off, rfl, hcell⟩ := hc (by omega)
            obtain ⟨ea, ec, g1, g2, -⟩ := hcell k hlt
            have hbw := World.block_lt_of_cell? _ _ g1
            have hbw' : b < w.heap.size + 1 := by simpa using hbw
            rw [← hb1.cell (p := ⟨b, off + k * 2, none⟩) hbw'] at g1
            rw [← hb1.cell (p := ⟨b, off + k * 2 + 1, none⟩) hbw'] at g2
            have hn3 := hn2 k
            have HN : Hid (∀ h : pOK B (ps.getD k (0, [])) = false, dOK B zs ps = false) := fun h => dOK_false (fun hh => by rw [hh.2.2.2.2 k hlt] at h; cases h)
            have HY : Hid (∀ h : pOK B (ps.getD k (0, [])) = true, ∀ j, j < k + 1 → pOK B (ps.getD j (0, [])) = true) := fun h j hj => by
              by_cases hjk : j = k
              · rw [hjk]; exact h
              · exact hall j (by omega)
            clear hcell hall
            generalize ps.getD k (0, []) = p at g1 g2 hn3 HN HY
            obtain ⟨q, ds⟩ := p
            simp only at g1 g2 hn3
            have hb4 := hb1.trans (((belowA wr (.cells #[.int .i64 q, .slice ea ds.length ec] 38))).mono hsz)
            have hb5 := hb2.trans (((belowA wr (.cells #[.int .i64 q, .slice ea ds.length ec] 38))).mono hb2.size)
            by_cases hq0 : 0 ≤ q
            · by_cases hq1 : q < B
              · by_cases hd : ds.length = 128
                · have hd' : ((ds.length : Int) != 128) = false := by simp; omega
                  have hY := HY.out (pOK_true ⟨hq0, hq1, hd⟩)
                  clear HN HY hd hb1
                  go_wp2
                  go_roundw
                  case rel => exact ⟨k + 1, by omega, by go_num, hb4, hY⟩
                  case measure => simp [intOf]; omega
                · have hd' : ((ds.length : Int) != 128) = true := by simp; omega
                  have hN := HN.out (pOK_false (by omega))
                  clear HN HY hd hb1
                  go_wp2
                  go_ret
                  exact ⟨rfl, hb5⟩
              · have hN := HN.out (pOK_false (by omega))
                clear HN HY hb1
                go_wp2
                go_ret
                exact ⟨rfl, hb5⟩
            · have hN := HN.out (pOK_false (by omega))
              clear HN HY hb1
              go_wp2
              go_ret
              exact ⟨rfl, hb5⟩
          · have hT : dOK B zs ps = true := dOK_true ⟨hB.1, hB.2, HZ.out, hm, fun i hi => hall i (by omega)⟩
            clear hc
            go_wp2
            go_ret
            exact ⟨by rw [hT]; rfl, hb2⟩
      · have hf : dOK B zs ps = false := dOK_false (by omega)
        have hm' : (2048 : Int) < (ps.length : Int) := by omega
        go_enter Try.func41, Try.ntmps41
        go_wp2_with fail
        refine (l1BlocksOK_any _ _).mono ?_
        rintro e w' ⟨rfl, rfl⟩
        go_wp2
        go_ret
        exact ⟨by rw [hf]; rfl, hb0⟩
    · have hf : dOK B zs ps = false := dOK_false (by omega)
      have hzl' : ((zs.length : Int) != B * 128) = true := by simpa using hzl
      go_enter Try.func41, Try.ntmps41
      go_wp2_with fail
      refine (l1BlocksOK_any _ _).mono ?_
      rintro e w' ⟨rfl, rfl⟩
      go_wp2
      go_ret
      exact ⟨by rw [hf]; rfl, hb0⟩
  · have hf : dOK B zs ps = false := dOK_false (by omega)
    have hib := inB_false hB
    go_enter Try.func41, Try.ntmps41
    go_wp2_with fail
    refine (l1BlocksOK_any _ _).mono ?_
    rintro e w' ⟨rfl, rfl⟩
    go_wp2
    go_ret
    exact ⟨by rw [hf]; rfl, hb0⟩
end Go.Proofs.Ytbadedhliplkeaa
