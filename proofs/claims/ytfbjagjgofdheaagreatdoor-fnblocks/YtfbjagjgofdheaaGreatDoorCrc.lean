import Derived.Test.YtfbjagjgofdheaaGreatDoorBytes
namespace Go.Proofs.YtfbjagjgofdheaaGreatDoor
open Go.RowKit

theorem xor32 (a b : Int) (h1 : 0 ≤ a) (h2 : a < 4294967296) (h3 : 0 ≤ b) (h4 : b < 4294967296) : 0 ≤ bits .xor .u32 a b ∧ bits .xor .u32 a b < 4294967296 := by
  rw [u32_xor a b h1 h2 h3 h4]
  have := Nat.xor_lt_two_pow (n := 32) (x := a.toNat) (y := b.toNat) (by omega) (by omega)
  omega

/-- one bit of the sum -/
def crcBit (x : Int) : Int := if (bits .and .u32 x 1 == 1) = true then bits .xor .u32 (x / 2) 3988292384 else x / 2
/-- the same bit by a mask -/
theorem crcBit_mask (x : Int) (h1 : 0 ≤ x) (h2 : x < 4294967296) : bits .xor .u32 (x / 2) (bits .and .u32 3988292384 (-bits .and .u32 x 1 % 4294967296)) = crcBit x := by
  have ha : bits .and .u32 x 1 = x % 2 := by
    rw [u32_and x 1 h1 h2 (by omega) (by omega), show (1 : Int).toNat = 1 from rfl, nat_mask1]
    omega
  unfold crcBit
  rw [ha]
  rcases (show x % 2 = 0 ∨ x % 2 = 1 by omega) with h | h
  · rw [h, show (-0 % 4294967296 : Int) = 0 from rfl, if_neg (by decide), u32_and 3988292384 0 (by omega) (by omega) (by omega) (by omega), show ((0 : Int).toNat) = 0 from rfl, Nat.and_zero]
    rw [u32_xor (x / 2) _ (by omega) (by omega) (by omega) (by omega), show (((0 : Nat) : Int).toNat) = 0 from rfl, Nat.xor_zero]
    omega
  · rw [h, show (-1 % 4294967296 : Int) = 4294967295 from by decide, if_pos (by decide), u32_and 3988292384 4294967295 (by omega) (by omega) (by omega) (by omega)]
    have e : (Int.toNat 3988292384 &&& Int.toNat 4294967295) = 3988292384 := by decide +kernel
    rw [e]
    rfl
def crcBits : Nat → Int → Int
  | 0, x => x
  | j + 1, x => crcBit (crcBits j x)
def crcByte (x z : Int) : Int := crcBits 8 (bits .xor .u32 x (z % 4294967296))
def crcReg (zs : List Int) : Int := zs.foldl crcByte 4294967295
def crcOf (zs : List Int) : Int := bits .xor .u32 (crcReg zs) 4294967295

theorem crcBit_in (x : Int) (h1 : 0 ≤ x) (h2 : x < 4294967296) : 0 ≤ crcBit x ∧ crcBit x < 4294967296 := by
  unfold crcBit
  split
  · exact xor32 _ _ (by omega) (by omega) (by omega) (by omega)
  · omega

theorem crcBits_in (j : Nat) (x : Int) (h1 : 0 ≤ x) (h2 : x < 4294967296) : 0 ≤ crcBits j x ∧ crcBits j x < 4294967296 := by
  induction j with
  | zero => exact ⟨h1, h2⟩
  | succ j ih => exact crcBit_in _ ih.1 ih.2

theorem crcByte_in (x z : Int) (h1 : 0 ≤ x) (h2 : x < 4294967296) : 0 ≤ crcByte x z ∧ crcByte x z < 4294967296 := by
  have := xor32 x (z % 4294967296) h1 h2 (by omega) (by omega)
  exact crcBits_in _ _ this.1 this.2

theorem crcReg_in (zs : List Int) : 0 ≤ crcReg zs ∧ crcReg zs < 4294967296 := by
  unfold crcReg
  have : ∀ (x : Int), 0 ≤ x → x < 4294967296 → 0 ≤ zs.foldl crcByte x ∧ zs.foldl crcByte x < 4294967296 := by
    induction zs with
    | nil => intro x h1 h2; exact ⟨h1, h2⟩
    | cons z zs ih => intro x h1 h2; exact ih _ (crcByte_in x z h1 h2).1 (crcByte_in x z h1 h2).2
  exact this _ (by omega) (by omega)

theorem crcOf_in (zs : List Int) : 0 ≤ crcOf zs ∧ crcOf zs < 4294967296 := xor32 _ _ (crcReg_in zs).1 (crcReg_in zs).2 (by omega) (by omega)

theorem crcReg_step (zs : List Int) (k : Nat) (h : k < zs.length) : crcReg (zs.take (k + 1)) = crcBits 8 (bits .xor .u32 (crcReg (zs.take k)) (zs[k] % 4294967296)) := by
  unfold crcReg
  rw [List.take_succ_eq_append_getElem h, List.foldl_append]
  rfl

set_option maxHeartbeats 400000 in
theorem specCrc_any (v : Value) (zs : List Int) (w : World) (hv : Bts w v zs) (hn : zs.length ≤ 281474976710656) :
    Calls Tryz.prog 37 #[v] w fun e w' => e = .returned (.int .u32 (crcOf zs)) ∧ w = w' := by
  obtain ⟨a, cap, rfl, hc⟩ := hv.shape
  by_cases hz : 0 < zs.length
  · obtain ⟨b, off, rfl, hcell⟩ := hc hz
    clear hc
    go_enter Tryz.func37, Tryz.ntmps37
    go_wp2
    go_loop [3, 4, 5, 6] (fun r i _ _ => ∃ k : Nat, k ≤ zs.length ∧ i = .int .i64 k ∧ r = .int .u32 (crcReg (zs.take k))) (fun _ i _ _ => zs.length - (intOf i).toNat)
    case atStart => exact ⟨0, Nat.zero_le _, rfl, rfl⟩
    case round =>
      obtain ⟨k, hk, rfl, rfl⟩ := hrel
      have hx := crcReg_in (zs.take k)
      by_cases hlt : k < zs.length
      · have g1 : w.cell? ⟨b, off + k, none⟩ = some (.int .u8 (zs.getD k 0)) := hcell k hlt
        have hs : 0 ≤ zs.getD k 0 ∧ zs.getD k 0 < 256 := hv.small k
        have HS : Hid (crcReg (zs.take (k + 1)) = crcBits 8 (bits .xor .u32 (crcReg (zs.take k)) (zs[k] % 4294967296))) := crcReg_step zs k hlt
        have hy := xor32 (crcReg (zs.take k)) (zs[k] % 4294967296) hx.1 hx.2 (by omega) (by omega)
        clear hcell
        go_wp2
        go_loop [3, 5, 6] (fun r i _ => ∃ j : Nat, j ≤ 8 ∧ i = .int .i64 j ∧ r = .int .u32 (crcBits j (bits .xor .u32 (crcReg (zs.take k)) (zs[k] % 4294967296)))) (fun _ i _ => 8 - (intOf i).toNat)
        case atStart => exact ⟨0, Nat.zero_le _, rfl, rfl⟩
        case round =>
          obtain ⟨j, hj, rfl, rfl⟩ := hrel
          have hb := crcBits_in j _ hy.1 hy.2
          by_cases hlt8 : j < 8
          · have HB : Hid (crcBits (j + 1) (bits .xor .u32 (crcReg (zs.take k)) (zs[k] % 4294967296)) = if (bits .and .u32 (crcBits j (bits .xor .u32 (crcReg (zs.take k)) (zs[k] % 4294967296))) 1 == 1) = true then bits .xor .u32 (crcBits j (bits .xor .u32 (crcReg (zs.take k)) (zs[k] % 4294967296)) / 2) 3988292384 else crcBits j (bits .xor .u32 (crcReg (zs.take k)) (zs[k] % 4294967296)) / 2) := rfl
            go_wp2
            all_goals
              go_round
              case rel => exact ⟨j + 1, by omega, by go_num, by rw [HB.out]; simp [*]⟩
              case measure => simp [intOf]; omega
          · have h8 : 8 = j := by omega
            subst h8
            go_wp2
            go_round
            case rel => exact ⟨k + 1, by omega, by go_num, by rw [HS.out]⟩
            case measure => simp [intOf]; omega
      · have HE : Hid (crcReg (zs.take k) = crcReg zs) := by rw [List.take_of_length_le (by omega)]; rfl
        go_wp2
        go_ret
        exact ⟨by rw [HE.out]; rfl, rfl⟩
  · have hz0 : zs = [] := List.eq_nil_of_length_eq_zero (by omega)
    subst hz0
    clear hc
    go_enter Tryz.func37, Tryz.ntmps37
    go_wp2
    go_loop [3, 4, 5, 6] (fun r i _ _ => i = .int .i64 0 ∧ r = .int .u32 4294967295) (fun _ _ _ _ => 0)
    case atStart => exact ⟨rfl, rfl⟩
    case round =>
      obtain ⟨rfl, rfl⟩ := hrel
      go_wp2
      go_ret
      exact ⟨rfl, rfl⟩

set_option maxHeartbeats 400000 in
theorem implCrc_any (v : Value) (zs : List Int) (w : World) (hv : Bts w v zs) (hn : zs.length ≤ 281474976710656) :
    Calls Tryz.prog 61 #[v] w fun e w' => e = .returned (.int .u32 (crcOf zs)) ∧ w = w' := by
  obtain ⟨a, cap, rfl, hc⟩ := hv.shape
  by_cases hz : 0 < zs.length
  · obtain ⟨b, off, rfl, hcell⟩ := hc hz
    clear hc
    go_enter Tryz.func61, Tryz.ntmps61
    go_wp2
    go_loop [3, 5, 8] (fun r _ i => ∃ k : Nat, k ≤ zs.length ∧ i = .int .i64 k ∧ r = .int .u32 (crcReg (zs.take k))) (fun _ _ i => zs.length - (intOf i).toNat)
    case atStart => exact ⟨0, Nat.zero_le _, rfl, rfl⟩
    case round =>
      obtain ⟨k, hk, rfl, rfl⟩ := hrel
      have hx := crcReg_in (zs.take k)
      by_cases hlt : k < zs.length
      · have g1 : w.cell? ⟨b, off + k, none⟩ = some (.int .u8 (zs.getD k 0)) := hcell k hlt
        have hs : 0 ≤ zs.getD k 0 ∧ zs.getD k 0 < 256 := hv.small k
        have HS : Hid (crcReg (zs.take (k + 1)) = crcBits 8 (bits .xor .u32 (crcReg (zs.take k)) (zs[k] % 4294967296))) := crcReg_step zs k hlt
        have hy := xor32 (crcReg (zs.take k)) (zs[k] % 4294967296) hx.1 hx.2 (by omega) (by omega)
        clear hcell
        go_wp2
        go_loop [3, 16] (fun r i => ∃ j : Nat, j ≤ 8 ∧ i = .int .i64 j ∧ r = .int .u32 (crcBits j (bits .xor .u32 (crcReg (zs.take k)) (zs[k] % 4294967296)))) (fun _ i => 8 - (intOf i).toNat)
        case atStart => exact ⟨0, Nat.zero_le _, rfl, rfl⟩
        case round =>
          obtain ⟨j, hj, rfl, rfl⟩ := hrel
          have hb := crcBits_in j _ hy.1 hy.2
          by_cases hlt8 : j < 8
          · have HB : Hid (crcBits (j + 1) (bits .xor .u32 (crcReg (zs.take k)) (zs[k] % 4294967296)) = crcBit (crcBits j (bits .xor .u32 (crcReg (zs.take k)) (zs[k] % 4294967296)))) := rfl
            go_wp2
            go_round
            case rel => exact ⟨j + 1, by omega, by go_num, by rw [HB.out, ← crcBit_mask _ hb.1 hb.2]⟩
            case measure => simp [intOf]; omega
          · have h8 : 8 = j := by omega
            subst h8
            go_wp2
            go_round
            case rel => exact ⟨k + 1, by omega, by go_num, by rw [HS.out]⟩
            case measure => simp [intOf]; omega
      · have HE : Hid (crcReg (zs.take k) = crcReg zs) := by rw [List.take_of_length_le (by omega)]; rfl
        go_wp2
        go_ret
        exact ⟨by rw [HE.out]; rfl, rfl⟩
  · have hz0 : zs = [] := List.eq_nil_of_length_eq_zero (by omega)
    subst hz0
    clear hc
    go_enter Tryz.func61, Tryz.ntmps61
    go_wp2
    go_loop [3, 5, 8] (fun r _ i => i = .int .i64 0 ∧ r = .int .u32 4294967295) (fun _ _ _ => 0)
    case atStart => exact ⟨rfl, rfl⟩
    case round =>
      obtain ⟨rfl, rfl⟩ := hrel
      go_wp2
      go_ret
      exact ⟨rfl, rfl⟩
end Go.Proofs.YtfbjagjgofdheaaGreatDoor
