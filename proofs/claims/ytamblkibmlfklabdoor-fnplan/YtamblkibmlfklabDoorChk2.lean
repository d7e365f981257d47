import Derived.Test.YtamblkibmlfklabDoorChk
namespace Go.Proofs.YtamblkibmlfklabDoor
open Go.RowKit

theorem chk_one (zs : List Int) : chk [zs] = if inB zs.length 8 512 = false then 1 else if badNum zs then 2 else if badHd zs then 5 else 0 := by
  by_cases h : inB zs.length 8 512 = false <;> simp [chk, badLen, h]

theorem chk_two (a b : List Int) (h : a.length = b.length) : chk [a, b] = if chk [a] = 1 ∨ chk [b] = 1 then 1 else if chk [a] = 2 ∨ chk [b] = 2 then 2 else if chk [a] ≠ 0 then chk [a] else chk [b] := by
  rw [chk_one, chk_one, h]
  by_cases h1 : inB b.length 8 512 = false
  · simp [chk, badLen, h, h1]
  · cases h2 : badNum a <;> cases h3 : badNum b <;> cases h4 : badHd a <;> cases h5 : badHd b <;> simp [chk, badLen, h, h1, h2, h3, h4, h5]

theorem chk_apart (a b : List Int) (h : a.length ≠ b.length) : chk [a, b] = 1 := by
  have h2 : ((b.length : Int) != (a.length : Int)) = true := by simp; omega
  simp [chk, badLen, h2]

/-- what OK says -/
theorem chk_ok {zs : List Int} (h : chk [zs] = 0) : (8 ≤ zs.length ∧ zs.length ≤ 512) ∧ (∀ i, 0 ≤ zs.getD i 0 ∧ zs.getD i 0 ≤ 65535) ∧ zs.getD 0 0 = 0 ∧ zs.getD 1 0 = 0 := by
  rw [chk_one] at h
  by_cases h1 : inB zs.length 8 512 = false
  · rw [if_pos h1] at h; omega
  · rw [if_neg h1] at h
    by_cases h2 : badNum zs = true
    · rw [if_pos h2] at h; omega
    · rw [if_neg h2] at h
      by_cases h3 : badHd zs = true
      · rw [if_pos h3] at h; omega
      · simp only [Bool.not_eq_false, inB, decide_eq_true_eq] at h1
        have h2' : badNum zs = false := by simpa using h2
        simp only [badHd, Bool.or_eq_true, bne_iff_ne, ne_eq, not_or, Decidable.not_not] at h3
        refine ⟨by omega, fun i => ?_, h3⟩
        by_cases hi : i < zs.length
        · have := List.any_eq_false.1 h2' zs[i] (List.getElem_mem hi)
          simp only [inB, Bool.not_eq_true', decide_eq_false_iff_not, Decidable.not_not] at this
          simpa [hi] using this
        · simp [hi]

set_option maxHeartbeats 1000000 in
theorem l3Check_any (v : Value) (zs : List Int) (w : World) (hv : Nts w v zs) (hl : zs.length ≤ 1048576) :
    Calls Tryd.prog 32 #[v] w fun e w' => e = .returned (.int .i64 (chk [zs])) ∧ ∃ n, w' = w.drewN n := by
  obtain ⟨a, cap, rfl, hc⟩ := hv.shape
  have HC : Hid (chk [zs] = if inB zs.length 8 512 = false then 1 else if badNum zs then 2 else if badHd zs then 5 else 0) := chk_one zs
  by_cases hb : inB zs.length 8 512 = false
  · have HC1 : Hid (chk [zs] = 1) := by rw [HC.out, if_pos hb]; rfl
    go_enter Tryd.func32, Tryd.ntmps32
    go_wp2_with fail
    refine (l1BlocksOK_any _ _).mono ?_
    rintro e w' ⟨rfl, rfl⟩
    rw [hb]
    clear hb hc
    go_wp2
    go_ret
    exact ⟨by rw [HC1.out]; rfl, 0, rfl⟩
  · have hb' : inB zs.length 8 512 = true := by simpa using hb
    have HC1 : Hid (chk [zs] = if badNum zs then 2 else if badHd zs then 5 else 0) := by rw [HC.out, if_neg hb]; rfl
    have hlen : 8 ≤ zs.length := by
      have := hb'
      simp only [inB, decide_eq_true_eq] at this
      omega
    obtain ⟨b, off, rfl, hcell⟩ := hc (by omega)
    clear hc hb HC
    go_enter Tryd.func32, Tryd.ntmps32
    go_wp2_with fail
    refine (l1BlocksOK_any _ _).mono ?_
    rintro e w' ⟨rfl, rfl⟩
    rw [hb']
    clear hb'
    go_wp2
    go_loopw [3] (fun i wr => ∃ k : Nat, k ≤ zs.length ∧ i = .int .i64 k ∧ (∃ n, wr = w.drewN n) ∧ ∀ j, j < k → inB (zs.getD j 0) 0 65535 = true) (fun i _ => zs.length - (intOf i).toNat)
    case atStart => exact ⟨0, Nat.zero_le _, rfl, ⟨0, rfl⟩, fun j hj => by omega⟩
    case round =>
      obtain ⟨k, hk, rfl, ⟨n, rfl⟩, hall⟩ := hrel
      by_cases hlt : k < zs.length
      · have g1 : w.cell? ⟨b, off + k, none⟩ = some (.int .i64 (zs.getD k 0)) := hcell k hlt
        have hi : (k : Int) < (zs.length : Int) := by omega
        have HP : Hid (inB (zs.getD k 0) 0 65535 = false → chk [zs] = 2) := fun h => by rw [HC1.out]; exact if_pos (any_at (d := 0) hlt (by rw [h]; rfl))
        generalize hzk : zs.getD k 0 = z at *
        clear hcell
        by_cases h1 : z < 0
        · have HC2 : Hid (chk [zs] = 2) := HP.out (inB_false (by omega))
          go_wp2
          go_ret
          exact ⟨by rw [HC2.out]; rfl, n, rfl⟩
        · by_cases h2 : 65535 < z
          · have HC2 : Hid (chk [zs] = 2) := HP.out (inB_false (by omega))
            go_wp2
            go_ret
            exact ⟨by rw [HC2.out]; rfl, n, rfl⟩
          · have hb2 : inB z 0 65535 = true := inB_true (by omega)
            go_wp2
            go_roundw
            case rel =>
              refine ⟨k + 1, by omega, by go_num, ⟨n, rfl⟩, fun j hj => ?_⟩
              by_cases hjk : j = k
              · rw [hjk, hzk]; exact hb2
              · exact hall j (by omega)
            case measure => simp [intOf]; omega
      · have hA : badNum zs = false := any_no 0 fun i hi => by rw [hall i (by omega)]; rfl
        have HC2 : Hid (chk [zs] = if badHd zs then 5 else 0) := by rw [HC1.out, hA]; rfl
        have HB : Hid (badHd zs = (zs.getD 0 0 != 0 || zs.getD 1 0 != 0)) := rfl
        have g0 := hcell 0 (by omega)
        have g1 := hcell 1 (by omega)
        rw [Nat.add_zero] at g0
        generalize zs.getD 0 0 = x at *
        generalize zs.getD 1 0 = y at *
        have hl1 : (1 : Int) < (zs.length : Int) := by omega
        have hl0 : 0 < zs.length := by omega
        clear hcell hA hall
        by_cases hx : x = 0
        · by_cases hy : y = 0
          · subst hx hy
            have HC3 : Hid (chk [zs] = 0) := by rw [HC2.out, HB.out]; rfl
            go_wp2
            go_ret
            exact ⟨by rw [HC3.out]; rfl, n, rfl⟩
          · have hy' : (y != 0) = true := by simpa using hy
            have HC3 : Hid (chk [zs] = 5) := by rw [HC2.out, if_pos]; · rfl
                                                · rw [HB.out, hy']; simp
            subst hx
            clear hy
            go_wp2
            go_ret
            exact ⟨by rw [HC3.out]; rfl, n, rfl⟩
        · have hx' : (x != 0) = true := by simpa using hx
          have HC3 : Hid (chk [zs] = 5) := by rw [HC2.out, if_pos]; · rfl
                                              · rw [HB.out, hx']; rfl
          clear hx
          go_wp2
          go_ret
          exact ⟨by rw [HC3.out]; rfl, n, rfl⟩
end Go.Proofs.YtamblkibmlfklabDoor
