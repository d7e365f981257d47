import Derived.Test.YtpjdhfbeofdplaaGreatDoorBytes
import Derived.Test.YtpjdhfbeofdplaaGreatDoorCrc
namespace Go.Proofs.YtpjdhfbeofdplaaGreatDoor
open Go.RowKit

/-- byte i of v, the least first -/
def leB (v : Int) (i : Nat) : Int := v / 2 ^ (8 * i) % 256
theorem leB_small (v : Int) (i : Nat) : 0 ≤ leB v i ∧ leB v i < 256 := by unfold leB; omega
/-- the first n bytes of v -/
def leN (v : Int) (n : Nat) : List Int := (List.range n).map fun i => leB v i
theorem leN_length (v : Int) (n : Nat) : (leN v n).length = n := by simp [leN]
theorem leN_snoc (v : Int) (n : Nat) : leN v (n + 1) = leN v n ++ [leB v n] := by simp [leN, List.range_succ]
theorem leN_small (v : Int) (n i : Nat) : 0 ≤ (leN v n).getD i 0 ∧ (leN v n).getD i 0 < 256 := by
  by_cases h : i < n
  · have := leB_small v i
    simpa [leN, h] using this
  · simp [leN, h]

set_option maxHeartbeats 1000000 in
theorem l2Num_any (u : Value) (zs : List Int) (v : Int) (n : Nat) (base : Nat) (w : World) (hu : Row8 base w u zs) (hb : base ≤ w.heap.size) (hz : zs.length ≤ 1048576) (hn : n ≤ 8) :
    Calls Tryz.prog 19 #[u, .int .i64 v, .int .i64 n] w fun e w' => ∃ u', e = .returned u' ∧ Row8 base w' u' (zs ++ leN v n) ∧ Below base w w' := by
  go_enter Tryz.func19, Tryz.ntmps19
  go_wp2
  go_loopw [0, 7] (fun u i wr => ∃ k : Nat, k ≤ n ∧ i = .int .i64 k ∧ Row8 base wr u (zs ++ leN v k) ∧ Below base w wr) (fun _ i _ => n - (intOf i).toNat)
  case atStart => exact ⟨0, Nat.zero_le _, rfl, by simpa [leN] using hu, Below.refl _ _⟩
  case round =>
    obtain ⟨k, hk, rfl, hown, hbl⟩ := hrel
    obtain ⟨ua, uc, hua⟩ := hown.shape
    subst hua
    have hsz := hbl.size
    have hfl : (zs ++ leN v k).length < 140737488355328 := by simp [leN_length]; omega
    by_cases hlt : k < n
    · have hki : (k : Int) < (n : Int) := by omega
      have HSN : Hid (zs ++ leN v (k + 1) = (zs ++ leN v k) ++ [leB v k]) := by rw [Hid, leN_snoc, List.append_assoc]
      have HB : Hid (leB v k = v / 2 ^ (8 * k) % 256) := rfl
      generalize zs ++ leN v k = ys at *
      go_wp2_with (first | (at_builtin; refine wpList_append8 rfl _ _ rfl _ hown rfl rfl hfl (by omega) ?_; intro v' w1 hown1 hbel1 hsz1 hgr1) | go_in)
      rw [← HB.out, ← HSN.out] at hown1
      go_roundw
      case rel => exact ⟨k + 1, by omega, by go_num, hown1, hbl.trans hbel1⟩
      case measure => simp [intOf]; omega
    · obtain rfl : k = n := by omega
      go_wp2
      go_ret
      exact ⟨_, rfl, hown, hbl⟩
end Go.Proofs.YtpjdhfbeofdplaaGreatDoor

namespace Go.Proofs.YtpjdhfbeofdplaaGreatDoor
open Go.RowKit

/-- filled up to 124 bytes -/
def fillL (zs : List Int) : List Int := zs ++ List.replicate (124 - zs.length) 0
/-- filled up, and the sum -/
def sealL (zs : List Int) : List Int := fillL zs ++ leN (crcOf (fillL zs)) 4
theorem fillL_length (zs : List Int) (h : zs.length ≤ 124) : (fillL zs).length = 124 := by simp [fillL]; omega
theorem sealL_length (zs : List Int) (h : zs.length ≤ 124) : (sealL zs).length = 128 := by simp [sealL, fillL_length zs h, leN_length]
/-- all bytes -/
def Byt (zs : List Int) : Prop := ∀ i, 0 ≤ zs.getD i 0 ∧ zs.getD i 0 < 256
theorem Byt.append {xs ys : List Int} (h : Byt xs) (k : Byt ys) : Byt (xs ++ ys) := fun i => by
  by_cases hi : i < xs.length
  · have := h i
    simpa [List.getElem?_append_left hi] using this
  · have := k (i - xs.length)
    simpa [List.getElem?_append_right (Nat.le_of_not_lt hi)] using this
theorem Byt.zeros (n : Nat) : Byt (List.replicate n 0) := fun i => by by_cases h : i < n <;> simp [h]
theorem Byt.nil : Byt [] := fun i => by simp
theorem Byt.le (v : Int) (n : Nat) : Byt (leN v n) := leN_small v n
theorem Byt.fill {zs : List Int} (h : Byt zs) : Byt (fillL zs) := h.append (Byt.zeros _)
theorem Byt.seal {zs : List Int} (h : Byt zs) : Byt (sealL zs) := h.fill.append (Byt.le _ _)

set_option maxHeartbeats 1000000 in
set_option maxRecDepth 100000 in
theorem l2Seal_any (u : Value) (zs : List Int) (base : Nat) (w : World) (hu : Row8 base w u zs) (hb : base ≤ w.heap.size) (hz : zs.length ≤ 124) (hy : Byt zs) :
    Calls Tryz.prog 48 #[u] w fun e w' => ∃ u', e = .returned u' ∧ Row8 base w' u' (sealL zs) ∧ Below base w w' := by
  have HF : Hid (sealL zs = fillL zs ++ leN (crcOf (fillL zs)) 4) := rfl
  have HL : Hid ((fillL zs).length = 124) := fillL_length zs hz
  have HFB : Hid (Byt (fillL zs)) := hy.fill
  have HE : Hid (zs ++ List.replicate (124 - zs.length) 0 = fillL zs) := rfl
  go_enter Tryz.func48, Tryz.ntmps48
  go_wp2
  go_loopw [0] (fun u wr => ∃ k : Nat, k ≤ 124 - zs.length ∧ Row8 base wr u (zs ++ List.replicate k 0) ∧ Below base w wr) (fun u _ => match u with | .slice _ n _ => 124 - n | _ => 0)
  case atStart => exact ⟨0, Nat.zero_le _, by simpa using hu, Below.refl _ _⟩
  case round =>
    obtain ⟨k, hk, hown, hbl⟩ := hrel
    obtain ⟨ua, uc, hua⟩ := hown.shape
    subst hua
    have hsz := hbl.size
    have hle : (zs ++ List.replicate k (0 : Int)).length = zs.length + k := by simp
    have hfl : (zs ++ List.replicate k (0 : Int)).length < 140737488355328 := by rw [hle]; omega
    by_cases hlt : k < 124 - zs.length
    · have HSN : Hid (zs ++ List.replicate (k + 1) 0 = (zs ++ List.replicate k 0) ++ [(0 : Int)]) := by rw [Hid, List.append_assoc, ← List.replicate_succ']
      have HL2 : Hid ((zs ++ List.replicate k (0 : Int)).length = zs.length + k) := hle
      have hli : (((zs ++ List.replicate k (0 : Int)).length : Nat) : Int) < 124 := by rw [hle]; omega
      clear hle
      generalize zs ++ List.replicate k 0 = ys at *
      go_wp2_with (first | (at_builtin; refine wpList_append8 rfl _ _ rfl _ hown rfl rfl hfl (by omega) ?_; intro v' w1 hown1 hbel1 hsz1 hgr1) | go_in)
      rw [← HSN.out] at hown1
      obtain ⟨va, vc, hva⟩ := hown1.shape
      subst hva
      go_roundw
      case rel => exact ⟨k + 1, by omega, hown1, hbl.trans hbel1⟩
      case measure => have := HL2.out; simp; omega
    · obtain rfl : k = 124 - zs.length := by omega
      rw [HE.out] at hown
      have hli : ¬ (((fillL zs).length : Nat) : Int) < 124 := by rw [HL.out]; omega
      have hbt := (hown.own HFB.out).bts
      have hcr := crcOf_in (fillL zs)
      have hf2 : (fillL zs).length ≤ 1048576 := by rw [HL.out]; omega
      rw [HL.out] at hown hbt
      clear hle hfl
      generalize hys : fillL zs = ys at *
      clear hys HE hli hf2
      have hli : ¬ (124 : Int) < 124 := by omega
      have hl124 : ys.length = 124 := HL.out
      have HL124 : Hid (ys.length = 124) := hl124
      clear hl124
      rw [← HL124.out] at hown hbt
      obtain ⟨sl, hsl⟩ : ∃ sl, sl = Value.slice ua ys.length uc := ⟨_, rfl⟩
      rw [← hsl] at hown hbt
      rw [HL124.out] at hsl
      go_wp2_with fail
      rw [← hsl]
      refine (specCrc_any _ ys _ hbt (by rw [HL124.out]; omega)).mono ?_
      rintro e w1 ⟨rfl, rfl⟩
      go_wp2_with fail
      rw [← hsl]
      refine (l2Num_any _ ys (crcOf ys) 4 base _ hown (by omega) (by rw [HL124.out]; omega) (by omega)).mono ?_
      rintro e w2 ⟨u', rfl, hR, hB⟩
      rw [← HF.out] at hR
      go_wp2
      go_ret
      exact ⟨_, rfl, hR, hbl.trans hB⟩
end Go.Proofs.YtpjdhfbeofdplaaGreatDoor
