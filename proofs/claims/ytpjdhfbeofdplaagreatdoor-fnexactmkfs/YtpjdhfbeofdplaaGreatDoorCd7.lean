import Derived.Test.YtpjdhfbeofdplaaGreatDoorCd6
import Derived.Deep.RegionHeld3
namespace Go.Proofs.YtpjdhfbeofdplaaGreatDoor
open Go.RowKit

theorem Arr.heap {w w' : World} {b : Nat} {zs : List Int} (h : Arr w b zs) (e : w'.heap = w.heap) : Arr w' b zs := ⟨h.1, h.2.kept (by rw [e]; exact Nat.le_refl _) (fun b _ _ _ => by rw [e])⟩
theorem Arr.below {w w' : World} {b : Nat} {zs : List Int} (h : Arr w b zs) (k : Below w.heap.size w w') : Arr w' b zs := ⟨h.1, h.2.below k⟩
theorem Arr.byt {w : World} {b : Nat} {zs : List Int} (h : Arr w b zs) : Byt zs := h.2.small
/-- the first n bytes, as a slice -/
theorem Arr.front {w : World} {b : Nat} {zs : List Int} (h : Arr w b zs) (n cap : Nat) (hn : n ≤ 128) : Bts w (.slice (some ⟨b, 0, none⟩) n cap) (zs.take n) := by
  have hl : (zs.take n).length = n := by simp [h.1]; omega
  refine ⟨fun i => ?_, _, cap, by rw [hl], fun _ => ⟨b, 0, rfl, fun i hi => ?_⟩⟩
  · have := h.byt i
    by_cases hi : i < n
    · simpa [List.getElem?_take, hi] using this
    · simp [List.getElem?_take, hi]
  · rw [hl] at hi
    have := (h.at (j := i) (by omega)).1
    rw [Nat.zero_add, this]
    simp [hi]
theorem Arr.new (w : World) (ds : List Int) (hl : ds.length = 128) (hb : Byt ds) (t : TypeId) : Arr (w.alloc (.cells (u8s ds) t)) w.heap.size ds := by
  refine ⟨hl, hb, _, _, by rw [hl], fun _ => ⟨w.heap.size, 0, rfl, Nat.le_refl _, Nat.lt_succ_self _, by simp, fun i hi => ?_⟩⟩
  rw [hl] at hi
  rw [Nat.zero_add, World.cell?_alloc_at _ _ _ _ rfl, World.frozen?_alloc_at _ _ _ _ rfl]
  simp [u8s, hl, hi]
theorem Arr.rng {w : World} {b : Nat} {zs : List Int} (h : Arr w b zs) : Rng8 w b 0 zs := ⟨h.1, fun i hi => by rw [Nat.zero_add]; exact (h.at hi).1⟩

set_option maxRecDepth 100000 in
set_option maxHeartbeats 1000000 in
theorem sealed_any (ds : List Int) (hl : ds.length = 128) (hb : Byt ds) (w : World) :
    Calls Tryz.prog 60 #[.agg (u8s ds)] w fun e w' => e = .returned (.agg (u8s (putL ds 124 (crcOf (ds.take 124)) 4))) ∧ Below w.heap.size w w' := by
  obtain ⟨W0, HW⟩ : ∃ W0, Hid (W0 = (w.alloc (.cells (u8s ds) 121)).alloc (.cells Tryz.zeroCells121 121)) := ⟨_, rfl⟩
  have hA : Arr W0 w.heap.size ds := by rw [HW.out]; exact (Arr.new w ds hl hb 121).below (belowA _ _)
  have hT : W0.there (w.heap.size + 1) 0 128 := by rw [HW.out, zeroRaw]; exact there_new _ _ (by simp)
  have hB : Below w.heap.size w W0 := by rw [HW.out]; exact ((Below.refl _ _).alloc (Nat.le_refl _) _).alloc (by simp) _
  have HS : Hid (W0.heap.size = w.heap.size + 1 + 1) := by rw [Hid, HW.out]; simp
  have HBX : Hid (∀ X : World, X.heap = W0.heap → Bts X (.slice (some ⟨w.heap.size, 0, none⟩) 124 128) (ds.take 124)) := fun X e => (hA.heap e).front 124 128 (by omega)
  have HAX : Hid (∀ X : World, X.heap = W0.heap → Arr X w.heap.size ds) := fun X e => hA.heap e
  have hcr := crcOf_in (ds.take 124)
  have HLT : Hid ((ds.take 124).length ≤ 281474976710656) := by simp [Hid]; omega
  obtain ⟨cr, HCR⟩ : ∃ cr, Hid (crcOf (ds.take 124) = cr) := ⟨_, rfl⟩
  rw [HCR.out] at hcr ⊢
  obtain ⟨pl, HPL⟩ : ∃ pl, Hid (putL ds 124 cr 4 = pl) := ⟨_, rfl⟩
  rw [HPL.out]
  have hcrc : ∀ X : World, X.heap = W0.heap → Calls Tryz.prog 68 #[.slice (some ⟨w.heap.size, 0, none⟩) 124 128] X fun e w' => e = .returned (.int .u32 cr) ∧ X = w' := fun X e => by
    have := implCrc_any _ (ds.take 124) X (HBX.out X e) HLT.out
    rwa [HCR.out] at this
  have HWR : Hid (IntKind.i64.wrap cr = cr) := IntWalk.i64_in _ ⟨by omega, by omega⟩
  have hput : ∀ X : World, X.heap = W0.heap → Calls Tryz.prog 67 #[.slice (some ⟨w.heap.size, 124, none⟩) 4 4, .int .i64 (IntKind.i64.wrap cr)] X fun e w' => e = .returned (.tuple #[]) ∧ Arr w' w.heap.size pl ∧ Upd w.heap.size (w.heap.size + 1) X w' := fun X e => by
    rw [HWR.out]
    have := putNumber_any w.heap.size 124 4 4 cr ds X (HAX.out X e) (by omega) (by omega)
    rwa [HPL.out] at this
  have HC1 : Hid _ := hcrc
  have HC2 : Hid _ := hput
  clear hcrc hput HBX HAX HLT
  clear hA
  go_enter Tryz.func60, Tryz.ntmps60
  go_wp2_with fail
  rw [← HW.out]
  go_region_held3 (fun _ => True) (exact trivial)
    ((first
      | (go_at_call 68; refine (HC1.out W0.drew rfl).mono ?_; rintro e w1 ⟨rfl, rfl⟩)
      | (go_at_call 67; refine (HC2.out W0.drew rfl).mono ?_; rintro e w3 ⟨rfl, hA3, hu3⟩)))
  have hT3 : w3.there (w.heap.size + 1) 0 128 := there_block (w := W0) hT (hu3.block _ (show w.heap.size + 1 < W0.heap.size by rw [HS.out]; omega) (.inr (Nat.le_refl _)))
  have hR3 := hA3.rng
  have hl3 := hA3.1
  have hB3 : Below w.heap.size w w3 := hB.drew.trans (hu3.below (Nat.le_refl _) (show w.heap.size ≤ W0.heap.size by rw [HS.out]; omega))
  have HBL : Hid (Below w.heap.size w (w3.setCells (w.heap.size + 1) 0 (pl.map (Value.int .u8)))) := Below.setCells hB3 (by omega) _ _
  have HRS : Hid _ := Rng8.stored hT3 hl3
  clear hA3 hu3 hB3 hT hB HC1 HC2 HW
  go_wp2_with (first | ((with_reducible refine wpList_load128 hR3 ?_ ?_); exact ⟨rfl, _, rfl, rfl⟩) | ((with_reducible refine wpList_store128 hT3 hl3 ?_ ?_); exact ⟨rfl, _, _, rfl, rfl, rfl⟩))
  exact bodyPost_ret (result_rng Tryz.results60 rfl HRS.out) rfl ⟨rfl, HBL.out⟩
end Go.Proofs.YtpjdhfbeofdplaaGreatDoor
