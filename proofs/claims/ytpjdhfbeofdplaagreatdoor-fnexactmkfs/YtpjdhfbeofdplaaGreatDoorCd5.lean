import Derived.Test.YtpjdhfbeofdplaaGreatDoorCd1
namespace Go.Proofs.YtpjdhfbeofdplaaGreatDoor
open Go.RowKit

/-- v laid into zs from off on, k bytes -/
def putL (zs : List Int) (off : Nat) (v : Int) : Nat → List Int
  | 0 => zs
  | k + 1 => (putL zs off v k).set (off + k) (leB v k)
theorem putL_length (zs : List Int) (off : Nat) (v : Int) (k : Nat) : (putL zs off v k).length = zs.length := by
  induction k with
  | zero => rfl
  | succ k ih => simp [putL, ih]

/-- block b is an array of 128 bytes -/
def Arr (w : World) (b : Nat) (zs : List Int) : Prop := zs.length = 128 ∧ Own8 b (b + 1) w (.slice (some ⟨b, 0, none⟩) 128 128) zs
theorem Arr.at {w : World} {b : Nat} {zs : List Int} (h : Arr w b zs) {j : Nat} (hj : j < 128) : w.cell? ⟨b, j, none⟩ = some (.int .u8 (zs.getD j 0)) ∧ w.frozen? ⟨b, j, none⟩ = false := by
  obtain ⟨hl, ho⟩ := h
  obtain ⟨_, _, he, hs⟩ := ho.shape
  simp only [Value.slice.injEq] at he
  obtain ⟨rfl, _, rfl⟩ := he
  obtain ⟨_, _, he, _, _, _, hc⟩ := hs (by omega)
  simp only [Option.some.injEq, Addr.mk.injEq, and_true] at he
  obtain ⟨rfl, rfl⟩ := he
  have := hc j (by omega)
  rwa [Nat.zero_add] at this
theorem Arr.stored {w : World} {b : Nat} {zs : List Int} (h : Arr w b zs) {j : Nat} (hj : j < 128) (x : Int) (hx : 0 ≤ x ∧ x < 256) : Arr (w.setCell ⟨b, j, none⟩ (.int .u8 x)) b (zs.set j x) ∧ Upd b (b + 1) w (w.setCell ⟨b, j, none⟩ (.int .u8 x)) := by
  have := h.2.stored j hj x hx
  rw [Nat.zero_add] at this
  exact ⟨⟨by rw [List.length_set]; exact h.1, this.1⟩, this.2⟩

set_option maxHeartbeats 1000000 in
theorem putNumber_any (b off n cap : Nat) (v : Int) (zs : List Int) (w : World) (h : Arr w b zs) (ho : off + n ≤ 128) (hn : n ≤ 8) :
    Calls Tryz.prog 67 #[.slice (some ⟨b, off, none⟩) n cap, .int .i64 v] w fun e w' => e = .returned (.tuple #[]) ∧ Arr w' b (putL zs off v n) ∧ Upd b (b + 1) w w' := by
  go_enter Tryz.func67, Tryz.ntmps67
  go_wp2
  go_loopw [7] (fun i wr => ∃ k : Nat, k ≤ n ∧ i = .int .i64 k ∧ Arr wr b (putL zs off v k) ∧ Upd b (b + 1) w wr) (fun i _ => n - (intOf i).toNat)
  case atStart => exact ⟨0, Nat.zero_le _, rfl, h, Upd.refl _ _ _⟩
  case round =>
    obtain ⟨k, hk, rfl, ha, hu⟩ := hrel
    by_cases hlt : k < n
    · have hki : (k : Int) < (n : Int) := by omega
      obtain ⟨c1, c2⟩ := ha.at (j := off + k) (by omega)
      have hst := ha.stored (j := off + k) (by omega) (leB v k) (leB_small v k)
      have HS1 : Hid (Arr (wr.setCell ⟨b, off + k, none⟩ (.int .u8 (v / 2 ^ (8 * k) % 256))) b (putL zs off v (k + 1))) := hst.1
      have HS2 : Hid (Upd b (b + 1) wr (wr.setCell ⟨b, off + k, none⟩ (.int .u8 (v / 2 ^ (8 * k) % 256)))) := hst.2
      clear hst
      generalize (putL zs off v k).getD (off + k) 0 = cv at *
      go_wp2
      go_roundw
      case rel => exact ⟨k + 1, by omega, by go_num, HS1.out, hu.trans HS2.out⟩
      case measure => simp [intOf]; omega
    · obtain rfl : k = n := by omega
      go_wp2
      exact bodyPost_end (v := .tuple #[]) (by simp [results, Tryz.results67, go_sem]) rfl ⟨rfl, ha, hu⟩
end Go.Proofs.YtpjdhfbeofdplaaGreatDoor
