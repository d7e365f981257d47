import Derived.Test.YtempdkoflofglaaGreatDoorPN
import Derived.Test.YtempdkoflofglaaGreatDoorSh
namespace Go.Proofs.YtempdkoflofglaaGreatDoor
open Go.RowKit

/-- a byte of a mask -/
def gdM (x : Nat) : Bool := decide (x = 48 ∨ x = 49)
/-- a word is a mask -/
def mkOK (s : ByteArray) : Bool := decide (1 ≤ s.size ∧ s.size ≤ 200) && allB gdM s

theorem mk_head {s : ByteArray} (h : ¬ (1 ≤ s.size ∧ s.size ≤ 200)) : mkOK s = false := by unfold mkOK; rw [decide_eq_false h]; rfl
theorem mk_bad {s : ByteArray} (k : Nat) (h : k < s.size) (hb : gdM (s[k]'h).toNat = false) : mkOK s = false := by unfold mkOK; rw [allB_bad k h hb, Bool.and_false]
theorem mk_good {s : ByteArray} (h : 1 ≤ s.size ∧ s.size ≤ 200) (H : ∀ k (h : k < s.size), gdM (s[k]'h).toNat = true) : mkOK s = true := by unfold mkOK; rw [decide_eq_true h, (allB_iff gdM s).2 H]; rfl

theorem gdM_set (b : UInt8) : gdM b.toNat = ([48, 49] : List UInt8).contains b := by
  have h1 : (b = 48) ↔ b.toNat = 48 := ⟨fun e => by rw [e]; rfl, fun e => UInt8.toNat_inj.1 e⟩
  have h2 : (b = 49) ↔ b.toNat = 49 := ⟨fun e => by rw [e]; rfl, fun e => UInt8.toNat_inj.1 e⟩
  rw [Bool.eq_iff_iff]
  simp [gdM, h1, h2]

theorem trim_all (l cs : List UInt8) : (Lib.trimS l cs).isEmpty = l.all fun b => cs.contains b := by
  rw [Bool.eq_iff_iff, List.isEmpty_iff, List.all_eq_true]
  have hL : ∀ x : List UInt8, Lib.trimLeftS x cs = [] ↔ ∀ b ∈ x, cs.contains b = true := fun x => by
    unfold Lib.trimLeftS
    induction x with
    | nil => simp
    | cons a r ih =>
      by_cases h : cs.contains a = true
      · rw [List.dropWhile_cons_of_pos h, ih]
        constructor
        · intro H b hb
          rcases List.mem_cons.1 hb with rfl | hb
          · exact h
          · exact H b hb
        · intro H b hb; exact H b (List.mem_cons_of_mem _ hb)
      · rw [List.dropWhile_cons_of_neg h]
        constructor
        · intro H; cases H
        · intro H; exact absurd (H a (List.mem_cons_self)) h
  have hR : Lib.trimRightS l cs = (l.reverse.dropWhile (cs.contains ·)).reverse := rfl
  unfold Lib.trimS
  rw [hL, hR]
  constructor
  · intro H
    have hd : l.reverse.dropWhile (cs.contains ·) = [] := by
      cases hx : l.reverse.dropWhile (cs.contains ·) with
      | nil => rfl
      | cons a r =>
        exfalso
        have h1 := List.head_dropWhile_not (cs.contains ·) (l := l.reverse) (by rw [hx]; simp)
        have h2 := H a (by rw [hx]; simp)
        simp only [hx, List.head_cons] at h1
        rw [h2] at h1
        cases h1
    have := (hL l.reverse).1 hd
    intro b hb
    exact this b (List.mem_reverse.2 hb)
  · intro H
    have hd : l.reverse.dropWhile (cs.contains ·) = [] := (hL l.reverse).2 fun b hb => H b (List.mem_reverse.1 hb)
    rw [hd]; simp

theorem trim_mask (s : ByteArray) : (Lib.trimS s.data.toList [48, 49]).isEmpty = allB gdM s := by
  rw [trim_all]
  unfold allB
  congr 1
  funext b
  exact (gdM_set b).symm

set_option maxHeartbeats 800000 in
theorem isMask_any (s : ByteArray) (w : World) (h1 : 1 ≤ s.size) (hs : s.size ≤ 1500) :
    Calls Tryz.prog 30 #[.string s] w fun e w' => e = .returned (.bool (mkOK s)) ∧ Below w.heap.size w w' := by
  by_cases h2 : s.size ≤ 200
  · have HT : Hid (mkOK s = (Lib.trimS s.data.toList [48, 49]).isEmpty) := by
      show mkOK s = _
      rw [trim_mask, mkOK, decide_eq_true ⟨h1, h2⟩, Bool.true_and]
    go_enter Tryz.func30, Tryz.ntmps30
    go_wp2_with (go_at_call 62; refine (Tryz.strings_Trim_laid s ⟨#[48, 49]⟩ w (by omega) (by decide) (ascii_of_all (by decide))).mono ?_; rintro e w1 ⟨rfl, hb1⟩)
    go_ret
    rw [HT.out]
    exact ⟨rfl, hb1⟩
  · have HB : Hid (mkOK s = false) := mk_head fun h => h2 h.2
    go_enter Tryz.func30, Tryz.ntmps30
    go_wp2_with fail
    go_ret
    rw [HB.out]
    exact ⟨rfl, Below.refl _ _⟩

set_option maxHeartbeats 1600000 in
theorem l6MaskOK_any (s : ByteArray) (w : World) (hs : s.size ≤ 1500) :
    Calls Tryz.prog 10 #[.string s] w fun e w' => e = .returned (.bool (mkOK s)) ∧ w = w' := by
  by_cases h1 : 1 ≤ s.size
  · by_cases h2 : s.size ≤ 200
    · go_enter Tryz.func10, Tryz.ntmps10
      go_wp2
      go_loop [3] (fun i => ∃ j : Nat, j ≤ s.size ∧ i = .int .i64 j ∧ ∀ k (h : k < s.size), k < j → gdM (s[k]'h).toNat = true) (fun i => s.size - (intOf i).toNat)
      case atStart => exact ⟨0, Nat.zero_le _, rfl, fun k _ hk => by omega⟩
      case round =>
        obtain ⟨j, hj, rfl, hg⟩ := hrel
        have HG : Hid (∀ k (h : k < s.size), k < j → gdM (s[k]'h).toNat = true) := hg
        by_cases hlt : j < s.size
        · clear hg
          by_cases h8 : (s[j]'hlt).toNat = 48
          · have h8' : (((s[j]'hlt).toNat : Int) != 48) = false := by simp; omega
            have hok : gdM (s[j]'hlt).toNat = true := by simp [gdM, h8]
            go_wp2
            go_round
            case rel =>
              refine ⟨j + 1, by omega, by go_num, fun k h hk => ?_⟩
              by_cases e : k = j
              · subst e; exact hok
              · exact HG.out k h (by omega)
            case measure => simp [intOf]; omega
          · have h8' : (((s[j]'hlt).toNat : Int) != 48) = true := by simp; omega
            by_cases h9 : (s[j]'hlt).toNat = 49
            · have h9' : (((s[j]'hlt).toNat : Int) != 49) = false := by simp; omega
              have hok : gdM (s[j]'hlt).toNat = true := by simp [gdM, h9]
              go_wp2
              go_round
              case rel =>
                refine ⟨j + 1, by omega, by go_num, fun k h hk => ?_⟩
                by_cases e : k = j
                · subst e; exact hok
                · exact HG.out k h (by omega)
              case measure => simp [intOf]; omega
            · have h9' : (((s[j]'hlt).toNat : Int) != 49) = true := by simp; omega
              have HB : Hid _ := mk_bad j hlt (by simp [gdM, h8, h9])
              go_wp2
              go_ret
              rw [HB.out]
              exact ⟨rfl, rfl⟩
        · have HB : Hid _ := mk_good ⟨h1, h2⟩ fun k h => hg k h (by omega)
          clear hg
          go_wp2
          go_ret
          rw [HB.out]
          exact ⟨rfl, rfl⟩
    · have HB : Hid (mkOK s = false) := mk_head fun h => h2 h.2
      go_enter Tryz.func10, Tryz.ntmps10
      go_wp2
      go_ret
      rw [HB.out]
      exact ⟨rfl, rfl⟩
  · have HB : Hid (mkOK s = false) := mk_head fun h => h1 h.1
    go_enter Tryz.func10, Tryz.ntmps10
    go_wp2
    go_ret
    rw [HB.out]
    exact ⟨rfl, rfl⟩

end Go.Proofs.YtempdkoflofglaaGreatDoor
