import Derived.Test.YtempdkoflofglaaGreatDoorPW
namespace Go.Proofs.YtempdkoflofglaaGreatDoor
open Go.RowKit

/-- the byte at a place -/
def bt (s : ByteArray) (k : Nat) : Nat := if h : k < s.size then (s[k]'h).toNat else 0
theorem bt_at {s : ByteArray} {k : Nat} (h : k < s.size) : bt s k = (s[k]'h).toNat := by simp [bt, h]

/-- a digit -/
def gdD (x : Nat) : Bool := decide (48 ≤ x ∧ x ≤ 57)
/-- the number that the first digits of a text tell -/
def dgv (s : ByteArray) : Nat → Int
  | 0 => 0
  | k + 1 => 10 * dgv s k + ((bt s k : Int) - 48)

theorem dgv_le (s : ByteArray) : ∀ k, (∀ i, i < k → gdD (bt s i) = true) → 0 ≤ dgv s k ∧ dgv s k < 10 ^ k
  | 0, _ => by simp [dgv]
  | k + 1, h => by
    have ih := dgv_le s k fun i hi => h i (by omega)
    have hk := h k (by omega)
    simp only [gdD, decide_eq_true_eq] at hk
    rw [dgv, Int.pow_succ]
    omega

/-- a word is a number -/
def nmOK (s : ByteArray) : Bool := decide (1 ≤ s.size ∧ s.size ≤ 6 ∧ (bt s 0 = 48 → s.size = 1)) && allB gdD s
/-- which -/
def nmV (s : ByteArray) : Int := if nmOK s then dgv s s.size else 0

theorem nm_head {s : ByteArray} (h : ¬ (1 ≤ s.size ∧ s.size ≤ 6 ∧ (bt s 0 = 48 → s.size = 1))) : nmOK s = false ∧ nmV s = 0 := by
  have e : nmOK s = false := by unfold nmOK; rw [decide_eq_false h]; rfl
  exact ⟨e, by rw [nmV, e]; rfl⟩
theorem nm_bad {s : ByteArray} (k : Nat) (h : k < s.size) (hb : gdD (s[k]'h).toNat = false) : nmOK s = false ∧ nmV s = 0 := by
  have e : nmOK s = false := by unfold nmOK; rw [allB_bad k h hb, Bool.and_false]
  exact ⟨e, by rw [nmV, e]; rfl⟩
theorem nm_good {s : ByteArray} (h : 1 ≤ s.size ∧ s.size ≤ 6 ∧ (bt s 0 = 48 → s.size = 1)) (H : ∀ k (h : k < s.size), gdD (s[k]'h).toNat = true) : nmOK s = true ∧ nmV s = dgv s s.size := by
  have e : nmOK s = true := by unfold nmOK; rw [decide_eq_true h, (allB_iff gdD s).2 H]; rfl
  exact ⟨e, by rw [nmV, e]; rfl⟩

theorem pow6 {k : Nat} (h : k < 6) {v : Int} (hv : v < 10 ^ k) : v ≤ 99999 := by
  have h2 : (10 : Int) ^ k ≤ 10 ^ 5 := by
    match k, h with
    | 0, _ => decide
    | 1, _ => decide
    | 2, _ => decide
    | 3, _ => decide
    | 4, _ => decide
    | 5, _ => decide
  have : (10 : Int) ^ 5 = 100000 := by decide
  omega

set_option maxHeartbeats 1600000 in
theorem l6Number_any (s : ByteArray) (w : World) (hs : s.size ≤ 1500) :
    Calls Tryz.prog 9 #[.string s] w fun e w' => e = .returned (.tuple #[.int .i64 (nmV s), .bool (nmOK s)]) ∧ w = w' := by
  by_cases h1 : 1 ≤ s.size
  · by_cases h6 : s.size ≤ 6
    · have e0 := bt_at (s := s) (k := 0) (by omega)
      by_cases hz : (s[0]'(by omega)).toNat = 48
      · have hz' : ((s[0]'(by omega)).toNat : Int) = 48 := by omega
        by_cases hs1 : s.size = 1
        · have HH : Hid (1 ≤ s.size ∧ s.size ≤ 6 ∧ (bt s 0 = 48 → s.size = 1)) := ⟨h1, h6, fun _ => hs1⟩
          have hn1 : ¬ (1 : Int) < (s.size : Int) := by omega
          clear e0 hz hs1
          go_enter Tryz.func9, Tryz.ntmps9
          go_wp2
          go_loop [4, 5] (fun v i => ∃ j : Nat, j ≤ s.size ∧ i = .int .i64 j ∧ v = .int .i64 (dgv s j) ∧ ∀ k (h : k < s.size), k < j → gdD (s[k]'h).toNat = true) (fun _ i => s.size - (intOf i).toNat)
          case atStart => exact ⟨0, Nat.zero_le _, rfl, rfl, fun k _ hk => by omega⟩
          case round =>
            obtain ⟨j, hj, rfl, rfl, hg⟩ := hrel
            have HG : Hid (∀ k (h : k < s.size), k < j → gdD (s[k]'h).toNat = true) := hg
            by_cases hlt : j < s.size
            · have hdv := dgv_le s j fun i hi => by rw [bt_at (by omega)]; exact hg i (by omega) hi
              have hd5 := pow6 (by omega) hdv.2
              have hd0 := hdv.1
              have HS : Hid (dgv s (j + 1) = 10 * dgv s j + (((s[j]'hlt).toNat : Int) - 48)) := by rw [dgv, bt_at hlt]; rfl
              clear hg hdv
              generalize dgv s j = dv at *
              by_cases h1 : 48 ≤ (s[j]'hlt).toNat
              · by_cases h2 : (s[j]'hlt).toNat ≤ 57
                · have hok : gdD (s[j]'hlt).toNat = true := by simp [gdD, h1, h2]
                  go_wp2
                  go_round
                  case rel =>
                    refine ⟨j + 1, by omega, by go_num, ?_, fun k h hk => ?_⟩
                    · first | (rw [HS.out]; done) | (rw [HS.out]; go_num)
                    · by_cases e : k = j
                      · subst e; exact hok
                      · exact HG.out k h (by omega)
                  case measure => simp [intOf]; omega
                · have HB : Hid _ := nm_bad j hlt (by simp [gdD, h2])
                  go_wp2
                  go_ret2
                  rw [HB.out.1, HB.out.2]
                  exact ⟨rfl, rfl⟩
              · have HB : Hid _ := nm_bad j hlt (by simp [gdD, h1])
                go_wp2
                go_ret2
                rw [HB.out.1, HB.out.2]
                exact ⟨rfl, rfl⟩
            · have hje : j = s.size := by omega
              have HB : Hid _ := nm_good HH.out fun k h => hg k h (by omega)
              have HJ : Hid (dgv s j = dgv s s.size) := by rw [hje]; rfl
              clear hg hje
              go_wp2
              go_ret2
              rw [HB.out.1, HB.out.2, ← HJ.out]
              exact ⟨rfl, rfl⟩
        · have HB : Hid _ := nm_head (s := s) fun h => hs1 (h.2.2 (by omega))
          have hs2 : (1 : Int) < (s.size : Int) := by omega
          clear e0 hz
          go_enter Tryz.func9, Tryz.ntmps9
          go_wp2
          go_ret2
          rw [HB.out.1, HB.out.2]
          exact ⟨rfl, rfl⟩
      · have hz' : (((s[0]'(by omega)).toNat : Int) == 48) = false := by
          apply Bool.eq_false_iff.2
          intro e
          have := beq_iff_eq.1 e
          omega
        have HH : Hid (1 ≤ s.size ∧ s.size ≤ 6 ∧ (bt s 0 = 48 → s.size = 1)) := ⟨h1, h6, fun h => absurd (by omega) hz⟩
        clear e0 hz
        go_enter Tryz.func9, Tryz.ntmps9
        go_wp2
        go_loop [4, 5] (fun v i => ∃ j : Nat, j ≤ s.size ∧ i = .int .i64 j ∧ v = .int .i64 (dgv s j) ∧ ∀ k (h : k < s.size), k < j → gdD (s[k]'h).toNat = true) (fun _ i => s.size - (intOf i).toNat)
        case atStart => exact ⟨0, Nat.zero_le _, rfl, rfl, fun k _ hk => by omega⟩
        case round =>
          obtain ⟨j, hj, rfl, rfl, hg⟩ := hrel
          have HG : Hid (∀ k (h : k < s.size), k < j → gdD (s[k]'h).toNat = true) := hg
          by_cases hlt : j < s.size
          · have hdv := dgv_le s j fun i hi => by rw [bt_at (by omega)]; exact hg i (by omega) hi
            have hd5 := pow6 (by omega) hdv.2
            have hd0 := hdv.1
            have HS : Hid (dgv s (j + 1) = 10 * dgv s j + (((s[j]'hlt).toNat : Int) - 48)) := by rw [dgv, bt_at hlt]; rfl
            clear hg hdv
            generalize dgv s j = dv at *
            by_cases h1 : 48 ≤ (s[j]'hlt).toNat
            · by_cases h2 : (s[j]'hlt).toNat ≤ 57
              · have hok : gdD (s[j]'hlt).toNat = true := by simp [gdD, h1, h2]
                go_wp2
                go_round
                case rel =>
                  refine ⟨j + 1, by omega, by go_num, ?_, fun k h hk => ?_⟩
                  · first | (rw [HS.out]; done) | (rw [HS.out]; go_num)
                  · by_cases e : k = j
                    · subst e; exact hok
                    · exact HG.out k h (by omega)
                case measure => simp [intOf]; omega
              · have HB : Hid _ := nm_bad j hlt (by simp [gdD, h2])
                go_wp2
                go_ret2
                rw [HB.out.1, HB.out.2]
                exact ⟨rfl, rfl⟩
            · have HB : Hid _ := nm_bad j hlt (by simp [gdD, h1])
              go_wp2
              go_ret2
              rw [HB.out.1, HB.out.2]
              exact ⟨rfl, rfl⟩
          · have hje : j = s.size := by omega
            have HB : Hid _ := nm_good HH.out fun k h => hg k h (by omega)
            have HJ : Hid (dgv s j = dgv s s.size) := by rw [hje]; rfl
            clear hg hje
            go_wp2
            go_ret2
            rw [HB.out.1, HB.out.2, ← HJ.out]
            exact ⟨rfl, rfl⟩
    · have HB : Hid _ := nm_head (s := s) fun h => h6 h.2.1
      go_enter Tryz.func9, Tryz.ntmps9
      go_wp2
      go_ret2
      rw [HB.out.1, HB.out.2]
      exact ⟨rfl, rfl⟩
  · have HB : Hid _ := nm_head (s := s) fun h => h1 h.1
    go_enter Tryz.func9, Tryz.ntmps9
    go_wp2
    go_ret2
    rw [HB.out.1, HB.out.2]
    exact ⟨rfl, rfl⟩

set_option maxHeartbeats 1600000 in
theorem numberIn_any (s : ByteArray) (w : World) (h1 : 1 ≤ s.size) (hs : s.size ≤ 1500) :
    Calls Tryz.prog 29 #[.string s] w fun e w' => e = .returned (.tuple #[.int .i64 (nmV s), .bool (nmOK s)]) ∧ Below w.heap.size w w' := by
  by_cases h6 : s.size ≤ 6
  · have e0 := bt_at (s := s) (k := 0) (by omega)
    by_cases hs1 : s.size = 1
    · have HH : Hid (1 ≤ s.size ∧ s.size ≤ 6 ∧ (bt s 0 = 48 → s.size = 1)) := ⟨h1, h6, fun _ => hs1⟩
      have hn1 : ¬ (1 : Int) < (s.size : Int) := by omega
      clear e0 hs1
      go_enter Tryz.func29, Tryz.ntmps29
      go_wp2
      go_loopw [4] (fun v wr => ∃ j : Nat, j ≤ s.size ∧ wr = w.iter s j ∧ v = .int .i64 (dgv s j) ∧ ∀ k (h : k < s.size), k < j → gdD (s[k]'h).toNat = true) (fun _ wr => s.size - wr.iterPos w.heap.size)
      case atStart => exact ⟨0, Nat.zero_le _, rfl, rfl, fun k _ hk => by omega⟩
      case round =>
        obtain ⟨j, hj, rfl, rfl, hg⟩ := hrel
        have HG : Hid (∀ k (h : k < s.size), k < j → gdD (s[k]'h).toNat = true) := hg
        have HBW : Hid (∀ p, Below w.heap.size w (w.iter s p)) := fun p => (Below.refl _ _).alloc (Nat.le_refl _) _
        have hpos0 := iterPos_iter w s j
        by_cases hlt : j < s.size
        · have hdv := dgv_le s j fun i hi => by rw [bt_at (by omega)]; exact hg i (by omega) hi
          have hd5 := pow6 (by omega) hdv.2
          have hd0 := hdv.1
          have HS : Hid (dgv s (j + 1) = 10 * dgv s j + (((s[j]'hlt).toNat : Int) - 48)) := by rw [dgv, bt_at hlt]; rfl
          clear hg hdv
          generalize dgv s j = dv at *
          by_cases ha : (s[j]'hlt).toNat < 128
          · have hnx : ∀ ty, (Instr.next (.pointer (some ⟨w.heap.size, 0, none⟩)) true ty).run Tryz.prog (w.iter s j) = _ := fun ty => run_next_ascii w s j ty hlt ha
            have hpos1 := iterPos_iter w s (j + 1)
            by_cases h1 : 48 ≤ (s[j]'hlt).toNat
            · by_cases h2 : (s[j]'hlt).toNat ≤ 57
              · have hok : gdD (s[j]'hlt).toNat = true := by simp [gdD, h1, h2]
                go_wp2
                go_roundw
                case rel =>
                  refine ⟨j + 1, by omega, rfl, ?_, fun k h hk => ?_⟩
                  · first | (rw [HS.out]; done) | (rw [HS.out]; go_num)
                  · by_cases e : k = j
                    · subst e; exact hok
                    · exact HG.out k h (by omega)
                case measure => rw [hpos0, hpos1]; omega
              · have HB : Hid _ := nm_bad j hlt (by simp [gdD, h2])
                go_wp2
                go_ret2
                rw [HB.out.1, HB.out.2]
                exact ⟨rfl, HBW.out _⟩
            · have HB : Hid _ := nm_bad j hlt (by simp [gdD, h1])
              go_wp2
              go_ret2
              rw [HB.out.1, HB.out.2]
              exact ⟨rfl, HBW.out _⟩
          · have hnx : ∀ ty, (Instr.next (.pointer (some ⟨w.heap.size, 0, none⟩)) true ty).run Tryz.prog (w.iter s j) = _ := fun ty => run_next_high w s j ty hlt
            have hd := (decode_high s j hlt (by omega)).1
            have hd2 := decode_le s j
            have HB : Hid _ := nm_bad j hlt (by simp [gdD]; omega)
            generalize (Utf8.decode s j).1 = rn at hnx hd hd2
            go_wp2
            go_ret2
            rw [HB.out.1, HB.out.2]
            exact ⟨rfl, HBW.out _⟩
        · have hnx : ∀ ty, (Instr.next (.pointer (some ⟨w.heap.size, 0, none⟩)) true ty).run Tryz.prog (w.iter s j) = _ := fun ty => run_next_end w s j ty hlt
          have hje : j = s.size := by omega
          have HB : Hid _ := nm_good HH.out fun k h => hg k h (by omega)
          have HJ : Hid (dgv s j = dgv s s.size) := by rw [hje]; rfl
          clear hg hje
          go_wp2
          go_ret2
          rw [HB.out.1, HB.out.2, ← HJ.out]
          exact ⟨rfl, HBW.out _⟩
    · have hs2 : (1 : Int) < (s.size : Int) := by omega
      by_cases hz : (s[0]'(by omega)).toNat = 48
      · have hz' : ((s[0]'(by omega)).toNat : Int) = 48 := by omega
        have HB : Hid _ := nm_head (s := s) fun h => hs1 (h.2.2 (by omega))
        clear e0 hz
        go_enter Tryz.func29, Tryz.ntmps29
        go_wp2
        go_ret2
        rw [HB.out.1, HB.out.2]
        exact ⟨rfl, Below.refl _ _⟩
      · have hz' : (((s[0]'(by omega)).toNat : Int) == 48) = false := by
          apply Bool.eq_false_iff.2
          intro e
          have := beq_iff_eq.1 e
          omega
        have HH : Hid (1 ≤ s.size ∧ s.size ≤ 6 ∧ (bt s 0 = 48 → s.size = 1)) := ⟨h1, h6, fun h => absurd (by omega) hz⟩
        clear e0 hz
        go_enter Tryz.func29, Tryz.ntmps29
        go_wp2
        go_loopw [4] (fun v wr => ∃ j : Nat, j ≤ s.size ∧ wr = w.iter s j ∧ v = .int .i64 (dgv s j) ∧ ∀ k (h : k < s.size), k < j → gdD (s[k]'h).toNat = true) (fun _ wr => s.size - wr.iterPos w.heap.size)
        case atStart => exact ⟨0, Nat.zero_le _, rfl, rfl, fun k _ hk => by omega⟩
        case round =>
          obtain ⟨j, hj, rfl, rfl, hg⟩ := hrel
          have HG : Hid (∀ k (h : k < s.size), k < j → gdD (s[k]'h).toNat = true) := hg
          have HBW : Hid (∀ p, Below w.heap.size w (w.iter s p)) := fun p => (Below.refl _ _).alloc (Nat.le_refl _) _
          have hpos0 := iterPos_iter w s j
          by_cases hlt : j < s.size
          · have hdv := dgv_le s j fun i hi => by rw [bt_at (by omega)]; exact hg i (by omega) hi
            have hd5 := pow6 (by omega) hdv.2
            have hd0 := hdv.1
            have HS : Hid (dgv s (j + 1) = 10 * dgv s j + (((s[j]'hlt).toNat : Int) - 48)) := by rw [dgv, bt_at hlt]; rfl
            clear hg hdv
            generalize dgv s j = dv at *
            by_cases ha : (s[j]'hlt).toNat < 128
            · have hnx : ∀ ty, (Instr.next (.pointer (some ⟨w.heap.size, 0, none⟩)) true ty).run Tryz.prog (w.iter s j) = _ := fun ty => run_next_ascii w s j ty hlt ha
              have hpos1 := iterPos_iter w s (j + 1)
              by_cases h1 : 48 ≤ (s[j]'hlt).toNat
              · by_cases h2 : (s[j]'hlt).toNat ≤ 57
                · have hok : gdD (s[j]'hlt).toNat = true := by simp [gdD, h1, h2]
                  go_wp2
                  go_roundw
                  case rel =>
                    refine ⟨j + 1, by omega, rfl, ?_, fun k h hk => ?_⟩
                    · first | (rw [HS.out]; done) | (rw [HS.out]; go_num)
                    · by_cases e : k = j
                      · subst e; exact hok
                      · exact HG.out k h (by omega)
                  case measure => rw [hpos0, hpos1]; omega
                · have HB : Hid _ := nm_bad j hlt (by simp [gdD, h2])
                  go_wp2
                  go_ret2
                  rw [HB.out.1, HB.out.2]
                  exact ⟨rfl, HBW.out _⟩
              · have HB : Hid _ := nm_bad j hlt (by simp [gdD, h1])
                go_wp2
                go_ret2
                rw [HB.out.1, HB.out.2]
                exact ⟨rfl, HBW.out _⟩
            · have hnx : ∀ ty, (Instr.next (.pointer (some ⟨w.heap.size, 0, none⟩)) true ty).run Tryz.prog (w.iter s j) = _ := fun ty => run_next_high w s j ty hlt
              have hd := (decode_high s j hlt (by omega)).1
              have hd2 := decode_le s j
              have HB : Hid _ := nm_bad j hlt (by simp [gdD]; omega)
              generalize (Utf8.decode s j).1 = rn at hnx hd hd2
              go_wp2
              go_ret2
              rw [HB.out.1, HB.out.2]
              exact ⟨rfl, HBW.out _⟩
          · have hnx : ∀ ty, (Instr.next (.pointer (some ⟨w.heap.size, 0, none⟩)) true ty).run Tryz.prog (w.iter s j) = _ := fun ty => run_next_end w s j ty hlt
            have hje : j = s.size := by omega
            have HB : Hid _ := nm_good HH.out fun k h => hg k h (by omega)
            have HJ : Hid (dgv s j = dgv s s.size) := by rw [hje]; rfl
            clear hg hje
            go_wp2
            go_ret2
            rw [HB.out.1, HB.out.2, ← HJ.out]
            exact ⟨rfl, HBW.out _⟩
  · have HB : Hid _ := nm_head (s := s) fun h => h6 h.2.1
    go_enter Tryz.func29, Tryz.ntmps29
    go_wp2
    go_ret2
    rw [HB.out.1, HB.out.2]
    exact ⟨rfl, Below.refl _ _⟩

end Go.Proofs.YtempdkoflofglaaGreatDoor
