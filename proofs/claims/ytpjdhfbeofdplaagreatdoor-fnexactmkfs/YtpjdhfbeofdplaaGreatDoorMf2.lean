import Derived.Test.YtpjdhfbeofdplaaGreatDoorMf0
import Derived.Deep.RegionLaw
namespace Go.Proofs.YtpjdhfbeofdplaaGreatDoor
open Go.RowKit
set_option linter.unusedVariables false

theorem cells3 {w2 w3 : World} {a b c : Addr} {x y z : Value} (h : w2.cell? a = some x ∧ w2.cell? b = some y ∧ w2.cell? c = some z) (hk : ∀ p : Addr, p = a ∨ p = b ∨ p = c → w3.heap[p.block]? = w2.heap[p.block]?) : w3.cell? a = some x ∧ w3.cell? b = some y ∧ w3.cell? c = some z := by
  refine ⟨?_, ?_, ?_⟩
  · rw [World.cell?_of_block (hk a (by simp))]; exact h.1
  · rw [World.cell?_of_block (hk b (by simp))]; exact h.2.1
  · rw [World.cell?_of_block (hk c (by simp))]; exact h.2.2

/-- element k of the steps, with a byte of its data -/
theorem step_at {w W : World} {sb scp : Nat} {ss : List (Int × Int × List Int)} (hs : SRead w (.slice (some ⟨sb, 0, none⟩) ss.length scp) ss) (hb : Below w.heap.size w W) (k : Nat) (hk : k < ss.length) {kd q : Int} {ds : List Int} (he : ss.getD k (0, 0, []) = (kd, q, ds)) :
    ∃ da dc, sb < w.heap.size ∧ W.cell? ⟨sb, k * 3 + 1, none⟩ = some (.int .i64 q) ∧ W.cell? ⟨sb, k * 3 + 2, none⟩ = some (.slice da ds.length dc) ∧ (∀ i, 0 ≤ ds.getD i 0 ∧ ds.getD i 0 < 256) ∧ (0 < ds.length → ∃ eb eo, da = some ⟨eb, eo, none⟩ ∧ ∀ x, x < ds.length → eb < w.heap.size ∧ W.cell? ⟨eb, eo + x, none⟩ = some (.int .u8 (ds.getD x 0))) := by
  obtain ⟨_, _, h1, hvc⟩ := hs
  simp only [Value.slice.injEq, true_and] at h1
  obtain ⟨rfl, rfl⟩ := h1
  obtain ⟨b, off, h2, hcell⟩ := hvc (by omega)
  simp only [Option.some.injEq, Addr.mk.injEq, and_true] at h2
  obtain ⟨rfl, rfl⟩ := h2
  obtain ⟨ea, ec, g1, g2, g3, g4⟩ := hcell k hk
  rw [he] at g1 g2 g3 g4
  simp only [Nat.zero_add] at g1 g2 g3 g4
  have hbw : sb < w.heap.size := World.block_lt_of_cell? _ _ g1
  have g5 := g4.below hb
  refine ⟨ea, ec, hbw, (hb.cell (p := ⟨sb, k * 3 + 1, none⟩) hbw).trans g2, (hb.cell (p := ⟨sb, k * 3 + 2, none⟩) hbw).trans g3, g4.small, fun hp => ?_⟩
  obtain ⟨a', cap', hv', hx⟩ := g4.shape
  simp only [Value.slice.injEq, true_and] at hv'
  obtain ⟨rfl, rfl⟩ := hv'
  obtain ⟨eb, eo, hae, hc⟩ := hx hp
  refine ⟨eb, eo, hae, fun x hx => ?_⟩
  have hlt := World.block_lt_of_cell? _ _ (hc x hx)
  exact ⟨hlt, (hb.cell (p := ⟨eb, eo + x, none⟩) hlt).trans (hc x hx)⟩

set_option maxRecDepth 100000 in
set_option maxHeartbeats 4000000 in
theorem l5Apply_any (v : Value) (sb scp : Nat) (zs : List Int) (ss : List (Int × Int × List Int)) (w : World) (hv : Bts w v zs) (hz0 : 0 < zs.length) (hn : zs.length ≤ 65536) (hs : SRead w (.slice (some ⟨sb, 0, none⟩) ss.length scp) ss) (hl : ss.length ≤ 4096) (hok : ∀ i, i < ss.length → ∃ q : Nat, (ss.getD i (0, 0, [])).2.1 = (q : Int) ∧ q * 128 + (ss.getD i (0, 0, [])).2.2.length ≤ zs.length) :
    Calls Tryz.prog 12 #[v, .slice (some ⟨sb, 0, none⟩) ss.length scp] w fun e w' => ∃ a cap g, e = .returned (.slice a zs.length cap) ∧ w.heap.size ≤ g ∧ g < w'.heap.size ∧ Own8 g (g + 1) w' (.slice a zs.length cap) (lay zs ss) ∧ Below w.heap.size w w' := by
  go_enter Tryz.func12, Tryz.ntmps12
  go_wp2_with fail
  refine (l1Copy_any v zs _ hv (by omega)).mono ?_
  rintro e w1 ⟨ua, uc, g, rfl, hg0, hgl, hO, hb⟩
  obtain ⟨off, rfl, hD⟩ := Dsk.of_own hO hz0
  have hL : L5 w w1 g off zs.length zs := ⟨hD, rfl, hgl, hg0, hb⟩
  clear hO hD hb hv
  go_wp2_with fail
  go_loopw [6, 7] (fun i _ wr => ∃ k : Nat, k ≤ ss.length ∧ i = .int .i64 k ∧ L5 w wr g off zs.length (lay zs (ss.take k))) (fun i _ _ => ss.length - (intOf i).toNat)
  case atStart => exact ⟨0, Nat.zero_le _, rfl, by rw [List.take_zero]; exact hL⟩
  case round =>
    obtain ⟨k, hk, rfl, hK⟩ := hrel
    clear hL
    by_cases hlt : k < ss.length
    · obtain ⟨q, hq, hqd⟩ := hok k hlt
      have hnx := lay_take ss zs k hlt
      obtain ⟨el, hel⟩ : ∃ el, ss.getD k (0, 0, []) = el := ⟨_, rfl⟩
      rw [hel] at hq hqd hnx
      obtain ⟨kd, q', ds⟩ := el
      simp only at hq hqd hnx
      subst hq
      simp only [Int.toNat_natCast] at hnx
      have HEL : Hid (ss.getD k (0, 0, []) = (kd, (q : Int), ds)) := hel
      have HNX : Hid (lay zs (ss.take (k + 1)) = pt (lay zs (ss.take k)) q ds ds.length) := hnx
      clear hel hnx
      have hki : (k : Int) < (ss.length : Int) := by omega
      have hdl : ds.length ≤ 65536 := by omega
      generalize lay zs (ss.take k) = Z at hK HNX
      go_wp2_with fail
      go_loopw [7] (fun xx wx => ∃ x : Nat, x ≤ ds.length ∧ xx = .int .i64 x ∧ L5 w wx g off zs.length (pt Z q ds x)) (fun xx _ => ds.length - (intOf xx).toNat)
      case atStart => exact ⟨0, Nat.zero_le _, rfl, hK⟩
      case round =>
        obtain ⟨x, hx, rfl, hX⟩ := hrel
        clear hK
        obtain ⟨da, dc, hsb, c1, c2, hsm, hc3⟩ := step_at hs hX.below k hlt HEL.out
        by_cases hxl : x < ds.length
        · obtain ⟨eb, eo, rfl, hc4⟩ := hc3 (by omega)
          obtain ⟨heb, c3⟩ := hc4 x hxl
          clear hc3 hc4
          have hxi : (x : Int) < (ds.length : Int) := by omega
          have hgb := hX.hg
          have hjx : q * 128 + x < zs.length := by omega
          obtain ⟨d1, d2⟩ := hX.disk.cell (q * 128 + x) (by rw [hX.len]; exact hjx)
          have hnext := hX.put (q * 128 + x) hjx (ds.getD x 0) (hsm x)
          have hx0 : (0 : Int) ≤ (x : Int) := by omega
          obtain ⟨bv, hbv⟩ : ∃ bv, ds.getD x 0 = bv := ⟨_, rfl⟩
          have HBV : Hid (ds.getD x 0 = bv) := hbv
          rw [hbv] at c3 hnext
          obtain ⟨y, hy⟩ : ∃ y, q * 128 + x = y := ⟨_, rfl⟩
          have HY : Hid (q * 128 + x = y) := hy
          rw [hy] at hnext d1 d2
          have hi1 : (y : Int) < (zs.length : Int) := by omega
          have hi0 : (0 : Int) ≤ (y : Int) := by omega
          have hqb : (q : Int) * 128 ≤ 65536 := by omega
          have hiw : IntKind.i64.wrap ((q : Int) * 128 + (x : Int)) = (y : Int) := by rw [← hy]; exact (IntWalk.i64_in _ ⟨by omega, by omega⟩).trans (by omega)
          have hw0 : IntKind.i64.wrap ((q : Int) * 128) = (q : Int) * 128 := IntWalk.i64_in _ ⟨by omega, by omega⟩
          have hsg : sb ≠ g := by omega
          have heg : eb ≠ g := by omega
          clear hbv hy hjx hX hsm
          have hq0 : wr.drew.cell? ⟨sb, k * 3 + 1, none⟩ = some (.int .i64 q) ∧ wr.drew.cell? ⟨sb, k * 3 + 2, none⟩ = some (.slice (some ⟨eb, eo, none⟩) ds.length dc) ∧ wr.drew.cell? ⟨eb, eo + x, none⟩ = some (.int .u8 bv) := ⟨c1, c2, c3⟩
          have HNE : ∀ p : Addr, p = ⟨sb, k * 3 + 1, none⟩ ∨ p = ⟨sb, k * 3 + 2, none⟩ ∨ p = ⟨eb, eo + x, none⟩ → p.block ≠ g := by
            rintro p (rfl | rfl | rfl)
            · exact hsg
            · exact hsg
            · exact heg
          go_wp2_with fail
          go_region_held3 (fun w' => w'.cell? ⟨sb, k * 3 + 1, none⟩ = some (.int .i64 q) ∧ w'.cell? ⟨sb, k * 3 + 2, none⟩ = some (.slice (some ⟨eb, eo, none⟩) ds.length dc) ∧ w'.cell? ⟨eb, eo + x, none⟩ = some (.int .u8 bv)) (first | assumption | exact cells3 hq0 (fun p hp => Below.heap_setCell _ _ _ _ (HNE p hp))) (fail)
          clear hq0 d1 d2 c1 c2 c3 HNE
          go_wp2
          go_roundw
          case rel => exact ⟨x + 1, by omega, by go_num, by unfold pt; rw [HBV.out, HY.out]; exact hnext.below' (Below.refl _ _).drew⟩
          case measure => simp [intOf]; omega
        · obtain rfl : x = ds.length := by omega
          clear hc3 hsm
          rw [← HNX.out] at hX
          go_wp2
          go_roundw
          case rel => exact ⟨k + 1, by omega, by go_num, hX⟩
          case measure => simp [intOf]; omega
    · obtain rfl : k = ss.length := by omega
      rw [List.take_length] at hK
      have hlen := hK.len
      have hO := hK.disk.own (uc := uc) hK.gl
      rw [hlen] at hO
      go_wp2
      go_ret
      exact ⟨_, _, g, rfl, hK.hg, hK.gl, hO, hK.below⟩
end Go.Proofs.YtpjdhfbeofdplaaGreatDoor
