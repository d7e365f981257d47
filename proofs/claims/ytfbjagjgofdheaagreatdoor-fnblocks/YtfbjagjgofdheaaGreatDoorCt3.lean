import Derived.Test.YtfbjagjgofdheaaGreatDoorRn1
import Derived.Deep.RegionHeld3
import Derived.Test.YtfbjagjgofdheaaGreatDoorCd1
namespace Go.Proofs.YtfbjagjgofdheaaGreatDoor
open Go.RowKit

/-- the runs are in order -/
def okC (rs : List R3) : Prop := ∀ i, i < rs.length → inR (rs.getD i (0, 0, 0)) ∧ (0 < i → fol (rs.getD (i - 1) (0, 0, 0)) (rs.getD i (0, 0, 0)))

theorem belowA (w : World) (o : Obj) : Below w.heap.size w (w.alloc o) := (Below.refl _ _).alloc (Nat.le_refl _) _

theorem six_cells {w w1 w3 : World} {g b o : Nat} {x y z p q r : Value} (hX : w1.cell? ⟨g, 0, none⟩ = some x ∧ w1.cell? ⟨g, 1, none⟩ = some y ∧ w1.cell? ⟨g, 2, none⟩ = some z ∧ w1.cell? ⟨b, o, none⟩ = some p ∧ w1.cell? ⟨b, o + 1, none⟩ = some q ∧ w1.cell? ⟨b, o + 2, none⟩ = some r) (hw : w.heap = w1.heap) (h : Below w.heap.size w w3) :
    w3.cell? ⟨g, 0, none⟩ = some x ∧ w3.cell? ⟨g, 1, none⟩ = some y ∧ w3.cell? ⟨g, 2, none⟩ = some z ∧ w3.cell? ⟨b, o, none⟩ = some p ∧ w3.cell? ⟨b, o + 1, none⟩ = some q ∧ w3.cell? ⟨b, o + 2, none⟩ = some r := by
  obtain ⟨x0, x1, x2, g1, g2, g3⟩ := hX
  have e1 := World.block_lt_of_cell? _ _ x0
  have e2 := World.block_lt_of_cell? _ _ g1
  have k : ∀ (c d : Nat) (u : Value), c < w1.heap.size → w1.cell? ⟨c, d, none⟩ = some u → w3.cell? ⟨c, d, none⟩ = some u := fun c d u hc hu => (h.cell (p := ⟨c, d, none⟩) (by rw [hw]; exact hc)).trans ((World.cell?_of_block (a := ⟨c, d, none⟩) (by rw [hw])).trans hu)
  exact ⟨k _ _ _ e1 x0, k _ _ _ e1 x1, k _ _ _ e1 x2, k _ _ _ e2 g1, k _ _ _ e2 g2, k _ _ _ e2 g3⟩

set_option maxRecDepth 100000 in
set_option maxHeartbeats 2000000 in
theorem checkRuns_any {w : World} {adr : Nat → Addr} (hL : Laid w adr) (v : Value) (rs : List R3) (hv : RRead w v rs) (hn : rs.length ≤ 1048576) :
    Calls Tryz.prog 102 #[v] w fun e w' => Below w.heap.size w w' ∧ ((okC rs ∧ e = .returned .nilIface) ∨ (¬ okC rs ∧ ∃ u g, e = .returned u ∧ PErr w' adr u g ∧ cdOf g = 5)) := by
  obtain ⟨a, cap, rfl, hc⟩ := hv
  go_enter Tryz.func102, Tryz.ntmps102
  go_wp2
  go_loopw [8] (fun i wr => ∃ k : Nat, k ≤ rs.length ∧ i = .int .i64 k ∧ Below w.heap.size w wr ∧ ∀ j, j < k → inR (rs.getD j (0, 0, 0)) ∧ (0 < j → fol (rs.getD (j - 1) (0, 0, 0)) (rs.getD j (0, 0, 0)))) (fun i _ => rs.length - (intOf i).toNat)
  case atStart => exact ⟨0, Nat.zero_le _, rfl, Below.refl _ _, fun j hj => by omega⟩
  case round =>
    obtain ⟨k, hk, rfl, hb, hall⟩ := hrel
    by_cases hlt : k < rs.length
    · obtain ⟨b, off, rfl, hcell⟩ := hc (by omega)
      obtain ⟨g1, g2, g3⟩ := hcell k hlt
      have hbw : b < w.heap.size := World.block_lt_of_cell? _ _ g1
      rw [← hb.cell (p := ⟨b, off + k * 3, none⟩) hbw] at g1
      rw [← hb.cell (p := ⟨b, off + k * 3 + 1, none⟩) hbw] at g2
      rw [← hb.cell (p := ⟨b, off + k * 3 + 2, none⟩) hbw] at g3
      have hi : (k : Int) < (rs.length : Int) := by omega
      have HC : Hid (∀ j, j < rs.length → w.cell? ⟨b, off + j * 3, none⟩ = some (.int .i64 (rs.getD j (0, 0, 0)).1) ∧ w.cell? ⟨b, off + j * 3 + 1, none⟩ = some (.int .i64 (rs.getD j (0, 0, 0)).2.1) ∧ w.cell? ⟨b, off + j * 3 + 2, none⟩ = some (.int .i64 (rs.getD j (0, 0, 0)).2.2)) := hcell
      obtain ⟨p, HP⟩ : ∃ p, Hid (rs.getD k (0, 0, 0) = p) := ⟨_, rfl⟩
      rw [HP.out] at g1 g2 g3
      obtain ⟨x, y, z⟩ := p
      simp only at g1 g2 g3
      have hL1 := hL.below hb
      have c0 := hL1.var 6 (by decide)
      have c1 := hL1.var 7 (by decide)
      clear hc hcell
      go_wp2_with fail
      have hbA := belowA wr (.cells #[.int .i64 x, .int .i64 y, .int .i64 z] 78)
      refine (inBounds_any x y z _).mono ?_
      rintro e w1 ⟨rfl, hb1⟩
      have hbx := hbA.trans (hb1.mono hbA.size)
      have hb2 := hb.trans (hbx.mono hb.size)
      have x0 : w1.cell? ⟨wr.heap.size, 0, none⟩ = some (.int .i64 x) := (hb1.cell (p := ⟨wr.heap.size, 0, none⟩) (by simp)).trans (World.cell?_alloc_at _ _ _ _ rfl)
      have x1 : w1.cell? ⟨wr.heap.size, 1, none⟩ = some (.int .i64 y) := (hb1.cell (p := ⟨wr.heap.size, 1, none⟩) (by simp)).trans (World.cell?_alloc_at _ _ _ _ rfl)
      have x2 : w1.cell? ⟨wr.heap.size, 2, none⟩ = some (.int .i64 z) := (hb1.cell (p := ⟨wr.heap.size, 2, none⟩) (by simp)).trans (World.cell?_alloc_at _ _ _ _ rfl)
      have hL2 := hL.below hb2
      have d0 := hL2.var 6 (by decide)
      have d1 := hL2.var 7 (by decide)
      have hs1 := hbx.size
      clear hL1 c0 c1 g1 g2 g3 hbA hb1
      by_cases hin : inR (x, y, z)
      · rw [inRb_t hin]
        by_cases hk0 : 0 < k
        · have hprev := (hall (k - 1) (by omega)).1
          obtain ⟨g1, g2, g3⟩ := HC.out (k - 1) (by omega)
          rw [← hb2.cell (p := ⟨b, off + (k - 1) * 3, none⟩) hbw] at g1
          rw [← hb2.cell (p := ⟨b, off + (k - 1) * 3 + 1, none⟩) hbw] at g2
          rw [← hb2.cell (p := ⟨b, off + (k - 1) * 3 + 2, none⟩) hbw] at g3
          obtain ⟨pp, HQ⟩ : ∃ p, Hid (rs.getD (k - 1) (0, 0, 0) = p) := ⟨_, rfl⟩
          rw [HQ.out] at g1 g2 g3 hprev
          obtain ⟨p, q, r⟩ := pp
          simp only at g1 g2 g3
          have hw1 : IntKind.i64.wrap ((k : Int) - 1) = ((k - 1 : Nat) : Int) := (IntWalk.i64_in _ ⟨by omega, by omega⟩).trans (by omega)
          have hi1 : ((k - 1 : Nat) : Int) < (rs.length : Int) := by omega
          have hki : (0 : Int) < (k : Int) := by omega
          have hp1 := hprev.1
          have hp2 := hprev.2.1
          simp only at hp1 hp2
          generalize hk1 : k - 1 = k1 at *
          have HX : Hid (w1.cell? ⟨wr.heap.size, 0, none⟩ = some (.int .i64 x) ∧ w1.cell? ⟨wr.heap.size, 1, none⟩ = some (.int .i64 y) ∧ w1.cell? ⟨wr.heap.size, 2, none⟩ = some (.int .i64 z) ∧ w1.cell? ⟨b, off + k1 * 3, none⟩ = some (.int .i64 p) ∧ w1.cell? ⟨b, off + k1 * 3 + 1, none⟩ = some (.int .i64 q) ∧ w1.cell? ⟨b, off + k1 * 3 + 2, none⟩ = some (.int .i64 r)) := ⟨x0, x1, x2, g1, g2, g3⟩
          clear hprev
          go_wp2_with fail
          go_region_held3 (fun w' => w'.cell? ⟨wr.heap.size, 0, none⟩ = some (.int .i64 x) ∧ w'.cell? ⟨wr.heap.size, 1, none⟩ = some (.int .i64 y) ∧ w'.cell? ⟨wr.heap.size, 2, none⟩ = some (.int .i64 z) ∧ w'.cell? ⟨b, off + k1 * 3, none⟩ = some (.int .i64 p) ∧ w'.cell? ⟨b, off + k1 * 3 + 1, none⟩ = some (.int .i64 q) ∧ w'.cell? ⟨b, off + k1 * 3 + 2, none⟩ = some (.int .i64 r)) (first | go_keep | assumption)
            ((go_at_call 103; refine (mayFollow_any x y z p q r (by omega) (by omega) _).mono ?_; rintro e w3 ⟨rfl, hb3⟩; have hXX := six_cells (w := w1.drew) HX.out rfl hb3))
          have hb4 : Below w.heap.size w w3 := hb2.drew.trans (hb3.mono hb2.size)
          have HIN : Hid (inR (x, y, z)) := hin
          clear hXX HX x0 x1 x2 g1 g2 g3 hb3 hin
          by_cases hf : fol (p, q, r) (x, y, z)
          · rw [folb_t hf]
            have HF : Hid (∀ j, j < k + 1 → inR (rs.getD j (0, 0, 0)) ∧ (0 < j → fol (rs.getD (j - 1) (0, 0, 0)) (rs.getD j (0, 0, 0)))) := fun j hj => by
              by_cases e : j = k
              · subst e
                rw [HP.out]
                exact ⟨HIN.out, fun _ => by rw [hk1, HQ.out]; exact hf⟩
              · exact hall j (by omega)
            clear hall hf
            go_wp2
            go_roundw
            case rel => exact ⟨k + 1, by omega, by go_num, hb4, HF.out⟩
            case measure => simp [intOf]; omega
          · rw [folb_f hf]
            have hno : ¬ okC rs := fun h => hf (by have := (h k hlt).2 hk0; rw [hk1, HP.out, HQ.out] at this; exact this)
            have hL3 := hL.below hb4
            have d2 := hL3.var 7 (by decide)
            have HE : Hid (∀ pl : Value, PErr (w3.alloc (.cells #[pl, .iface 146 (.pointer (some (adr 7)))] 94)) adr (.iface 92 (.pointer (some ⟨w3.heap.size, 0, none⟩))) 7) := fun pl => ⟨by decide, w3.heap.size, 0, rfl, World.cell?_alloc_at _ _ _ _ rfl⟩
            have hbE := fun o => hb4.trans ((belowA w3 o).mono hb4.size)
            clear hall hf d0 d1
            go_wp2
            go_ret
            exact ⟨hbE _, .inr ⟨hno, _, _, rfl, HE.out _, rfl⟩⟩
        · have hki : ¬ (0 : Int) < (k : Int) := by omega
          have HF : Hid (∀ j, j < k + 1 → inR (rs.getD j (0, 0, 0)) ∧ (0 < j → fol (rs.getD (j - 1) (0, 0, 0)) (rs.getD j (0, 0, 0)))) := fun j hj => by
            obtain rfl : j = k := by omega
            rw [HP.out]
            exact ⟨hin, fun h => by omega⟩
          clear hall hin
          go_wp2
          go_quiet (fail)
          go_wp2
          go_roundw
          case rel => exact ⟨k + 1, by omega, by go_num, below_drewN hb2 _, HF.out⟩
          case measure => simp [intOf]; omega
      · rw [inRb_f hin]
        have hno : ¬ okC rs := fun h => hin (by have := (h k hlt).1; rw [HP.out] at this; exact this)
        have HE : Hid (∀ pl : Value, PErr (w1.alloc (.cells #[pl, .iface 146 (.pointer (some (adr 6)))] 94)) adr (.iface 92 (.pointer (some ⟨w1.heap.size, 0, none⟩))) 6) := fun pl => ⟨by decide, w1.heap.size, 0, rfl, World.cell?_alloc_at _ _ _ _ rfl⟩
        have hbE := fun o => hb2.trans ((belowA w1 o).mono hb2.size)
        clear hall x0 x1 x2
        go_wp2
        go_ret
        exact ⟨hbE _, .inr ⟨hno, _, _, rfl, HE.out _, rfl⟩⟩
    · have hok : okC rs := fun i hi => hall i (by omega)
      clear hall hc
      go_wp2
      go_ret
      exact ⟨hb, .inl ⟨hok, rfl⟩⟩
end Go.Proofs.YtfbjagjgofdheaaGreatDoor

namespace Go.Proofs.YtfbjagjgofdheaaGreatDoor
open Go.RowKit

/-- a block's head -/
def headL (kd nm : Int) : List Int := kd :: nm :: List.replicate 126 0
theorem headL_length (kd nm : Int) : (headL kd nm).length = 128 := by simp [headL]
theorem zeroRaw : Tryz.zeroCells100 = zero128 := by kernel_rfl
theorem headCells (kd nm : Int) : (Tryz.zeroCells100.setIfInBounds 0 (Value.int .u8 kd)).setIfInBounds 1 (Value.int .u8 nm) = u8s (headL kd nm) := by
  rw [zeroRaw]
  apply Array.toList_inj.1
  simp [zero128, u8s, headL, List.replicate_succ]

set_option maxRecDepth 100000 in
set_option maxHeartbeats 1000000 in
theorem begin_any (kd nm : Int) (hk : 0 ≤ kd ∧ kd < 256) (hm : 0 ≤ nm ∧ nm < 256) (w : World) :
    Calls Tryz.prog 92 #[.agg #[.int .i64 kd, .int .i64 nm]] w fun e w' => e = .returned (.agg (u8s (headL kd nm))) ∧ Below w.heap.size w w' := by
  have hl := headL_length kd nm
  have hb1 := belowA w (.cells #[.int .i64 kd, .int .i64 nm] 73)
  have hb2 := hb1.trans ((belowA (w.alloc (.cells #[.int .i64 kd, .int .i64 nm] 73)) (.cells Tryz.zeroCells100 100)).mono hb1.size)
  have hb3 := hb2.trans ((belowA ((w.alloc (.cells #[.int .i64 kd, .int .i64 nm] 73)).alloc (.cells Tryz.zeroCells100 100)) (.cells ((Tryz.zeroCells100.setIfInBounds 0 (Value.int .u8 kd)).setIfInBounds 1 (Value.int .u8 nm)) 100)).mono hb2.size)
  have hR : Rng8 (((w.alloc (.cells #[.int .i64 kd, .int .i64 nm] 73)).alloc (.cells Tryz.zeroCells100 100)).alloc (.cells ((Tryz.zeroCells100.setIfInBounds 0 (Value.int .u8 kd)).setIfInBounds 1 (Value.int .u8 nm)) 100)) (w.heap.size + 1 + 1) 0 (headL kd nm) := by
    rw [headCells]
    exact rng_new _ _ hl _ _ (by simp)
  have hT : (((w.alloc (.cells #[.int .i64 kd, .int .i64 nm] 73)).alloc (.cells Tryz.zeroCells100 100)).alloc (.cells ((Tryz.zeroCells100.setIfInBounds 0 (Value.int .u8 kd)).setIfInBounds 1 (Value.int .u8 nm)) 100)).there (w.heap.size + 1) 0 128 := by
    refine there_block (w := (w.alloc (.cells #[.int .i64 kd, .int .i64 nm] 73)).alloc (.cells Tryz.zeroCells100 100)) ?_ ((belowA _ _).block _ (by simp))
    rw [zeroRaw]
    exact there_new _ _ (by simp)
  have HBL : Hid (Below w.heap.size w ((((w.alloc (.cells #[.int .i64 kd, .int .i64 nm] 73)).alloc (.cells Tryz.zeroCells100 100)).alloc (.cells ((Tryz.zeroCells100.setIfInBounds 0 (Value.int .u8 kd)).setIfInBounds 1 (Value.int .u8 nm)) 100)).setCells (w.heap.size + 1) 0 ((headL kd nm).map (Value.int .u8)))) := Below.setCells hb3 (by omega) _ _
  have HRS : Hid _ := Rng8.stored hT hl
  clear hb1 hb2 hb3
  go_enter Tryz.func92, Tryz.ntmps92
  go_wp2_with (first | ((with_reducible refine wpList_load128 hR ?_ ?_); exact ⟨rfl, _, rfl, rfl⟩) | ((with_reducible refine wpList_store128 hT hl ?_ ?_); exact ⟨rfl, _, _, rfl, rfl, rfl⟩))
  exact bodyPost_ret (result_rng Tryz.results92 rfl HRS.out) rfl ⟨rfl, HBL.out⟩
end Go.Proofs.YtfbjagjgofdheaaGreatDoor

namespace Go.Proofs.YtfbjagjgofdheaaGreatDoor
open Go.RowKit

theorem Arr.heap {w w' : World} {b : Nat} {zs : List Int} (h : Arr w b zs) (e : w'.heap = w.heap) : Arr w' b zs := ⟨h.1, h.2.kept (by rw [e]; exact Nat.le_refl _) (fun b _ _ _ => by rw [e])⟩
theorem Arr.below {w w' : World} {b : Nat} {zs : List Int} (h : Arr w b zs) (k : Below w.heap.size w w') : Arr w' b zs := ⟨h.1, h.2.below k⟩
theorem Arr.byt {w : World} {b : Nat} {zs : List Int} (h : Arr w b zs) : Byt zs := h.2.small
/-- the first n bytes, as a slice -/
theorem Arr.front {w : World} {b : Nat} {zs : List Int} (h : Arr w b zs) (n cap : Nat) (hn : n ≤ 128) : Bts w (.slice (some ⟨b, 0, none⟩) n cap) (zs.take n) := by
  have hl : (zs.take n).length = n := by simp [h.1]; omega
  refine ⟨fun i => ?_, _, cap, by rw [hl], fun _ => ⟨b, 0, rfl, fun i hi => ?_⟩⟩
  · have := h.byt i
    by_cases hi : i < n
    · simpa [List.getElem?_take, hi] using this
    · simp [List.getElem?_take, hi]
  · rw [hl] at hi
    have := (h.at (j := i) (by omega)).1
    rw [Nat.zero_add, this]
    simp [hi]
theorem Arr.new (w : World) (ds : List Int) (hl : ds.length = 128) (hb : Byt ds) (t : TypeId) : Arr (w.alloc (.cells (u8s ds) t)) w.heap.size ds := by
  refine ⟨hl, hb, _, _, by rw [hl], fun _ => ⟨w.heap.size, 0, rfl, Nat.le_refl _, Nat.lt_succ_self _, by simp, fun i hi => ?_⟩⟩
  rw [hl] at hi
  rw [Nat.zero_add, World.cell?_alloc_at _ _ _ _ rfl, World.frozen?_alloc_at _ _ _ _ rfl]
  simp [u8s, hl, hi]
theorem Arr.rng {w : World} {b : Nat} {zs : List Int} (h : Arr w b zs) : Rng8 w b 0 zs := ⟨h.1, fun i hi => by rw [Nat.zero_add]; exact (h.at hi).1⟩

set_option maxRecDepth 100000 in
set_option maxHeartbeats 1000000 in
theorem sealed_any (ds : List Int) (hl : ds.length = 128) (hb : Byt ds) (w : World) :
    Calls Tryz.prog 46 #[.agg (u8s ds)] w fun e w' => e = .returned (.agg (u8s (putL ds 124 (crcOf (ds.take 124)) 4))) ∧ Below w.heap.size w w' := by
  obtain ⟨W0, HW⟩ : ∃ W0, Hid (W0 = (w.alloc (.cells (u8s ds) 100)).alloc (.cells Tryz.zeroCells100 100)) := ⟨_, rfl⟩
  have hA : Arr W0 w.heap.size ds := by rw [HW.out]; exact (Arr.new w ds hl hb 100).below (belowA _ _)
  have hT : W0.there (w.heap.size + 1) 0 128 := by rw [HW.out, zeroRaw]; exact there_new _ _ (by simp)
  have hB : Below w.heap.size w W0 := by rw [HW.out]; exact ((Below.refl _ _).alloc (Nat.le_refl _) _).alloc (by simp) _
  have HS : Hid (W0.heap.size = w.heap.size + 1 + 1) := by rw [Hid, HW.out]; simp
  have HBX : Hid (∀ X : World, X.heap = W0.heap → Bts X (.slice (some ⟨w.heap.size, 0, none⟩) 124 128) (ds.take 124)) := fun X e => (hA.heap e).front 124 128 (by omega)
  have HAX : Hid (∀ X : World, X.heap = W0.heap → Arr X w.heap.size ds) := fun X e => hA.heap e
  have hcr := crcOf_in (ds.take 124)
  have HLT : Hid ((ds.take 124).length ≤ 281474976710656) := by simp [Hid]; omega
  obtain ⟨cr, HCR⟩ : ∃ cr, Hid (crcOf (ds.take 124) = cr) := ⟨_, rfl⟩
  rw [HCR.out] at hcr ⊢
  obtain ⟨pl, HPL⟩ : ∃ pl, Hid (putL ds 124 cr 4 = pl) := ⟨_, rfl⟩
  rw [HPL.out]
  have hcrc : ∀ X : World, X.heap = W0.heap → Calls Tryz.prog 61 #[.slice (some ⟨w.heap.size, 0, none⟩) 124 128] X fun e w' => e = .returned (.int .u32 cr) ∧ X = w' := fun X e => by
    have := implCrc_any _ (ds.take 124) X (HBX.out X e) HLT.out
    rwa [HCR.out] at this
  have HWR : Hid (IntKind.i64.wrap cr = cr) := IntWalk.i64_in _ ⟨by omega, by omega⟩
  have hput : ∀ X : World, X.heap = W0.heap → Calls Tryz.prog 60 #[.slice (some ⟨w.heap.size, 124, none⟩) 4 4, .int .i64 (IntKind.i64.wrap cr)] X fun e w' => e = .returned (.tuple #[]) ∧ Arr w' w.heap.size pl ∧ Upd w.heap.size (w.heap.size + 1) X w' := fun X e => by
    rw [HWR.out]
    have := putNumber_any w.heap.size 124 4 4 cr ds X (HAX.out X e) (by omega) (by omega)
    rwa [HPL.out] at this
  have HC1 : Hid _ := hcrc
  have HC2 : Hid _ := hput
  clear hcrc hput HBX HAX HLT
  clear hA
  go_enter Tryz.func46, Tryz.ntmps46
  go_wp2_with fail
  rw [← HW.out]
  go_region_held3 (fun _ => True) (exact trivial)
    ((first
      | (go_at_call 61; refine (HC1.out W0.drew rfl).mono ?_; rintro e w1 ⟨rfl, rfl⟩)
      | (go_at_call 60; refine (HC2.out W0.drew rfl).mono ?_; rintro e w3 ⟨rfl, hA3, hu3⟩)))
  have hT3 : w3.there (w.heap.size + 1) 0 128 := there_block (w := W0) hT (hu3.block _ (show w.heap.size + 1 < W0.heap.size by rw [HS.out]; omega) (.inr (Nat.le_refl _)))
  have hR3 := hA3.rng
  have hl3 := hA3.1
  have hB3 : Below w.heap.size w w3 := hB.drew.trans (hu3.below (Nat.le_refl _) (show w.heap.size ≤ W0.heap.size by rw [HS.out]; omega))
  have HBL : Hid (Below w.heap.size w (w3.setCells (w.heap.size + 1) 0 (pl.map (Value.int .u8)))) := Below.setCells hB3 (by omega) _ _
  have HRS : Hid _ := Rng8.stored hT3 hl3
  clear hA3 hu3 hB3 hT hB HC1 HC2 HW
  go_wp2_with (first | ((with_reducible refine wpList_load128 hR3 ?_ ?_); exact ⟨rfl, _, rfl, rfl⟩) | ((with_reducible refine wpList_store128 hT3 hl3 ?_ ?_); exact ⟨rfl, _, _, rfl, rfl, rfl⟩))
  exact bodyPost_ret (result_rng Tryz.results46 rfl HRS.out) rfl ⟨rfl, HBL.out⟩
end Go.Proofs.YtfbjagjgofdheaaGreatDoor

namespace Go.Proofs.YtfbjagjgofdheaaGreatDoor
open Go.RowKit

/-- the runs are in order and end by top -/
def okT (top : Int) (rs : List R3) : Prop := okC rs ∧ ∀ i, i < rs.length → (rs.getD i (0, 0, 0)).1 + (rs.getD i (0, 0, 0)).2.1 ≤ top

/-- so far -/
def okU (top : Int) (rs : List R3) (k : Nat) : Prop := ∀ j, j < k → inR (rs.getD j (0, 0, 0)) ∧ (0 < j → fol (rs.getD (j - 1) (0, 0, 0)) (rs.getD j (0, 0, 0))) ∧ (rs.getD j (0, 0, 0)).1 + (rs.getD j (0, 0, 0)).2.1 ≤ top

theorem okU_end {top : Int} {rs : List R3} (h : okU top rs rs.length) : okT top rs := ⟨fun i hi => ⟨(h i hi).1, (h i hi).2.1⟩, fun i hi => (h i hi).2.2⟩
theorem okT_at {top : Int} {rs : List R3} (h : okT top rs) {i : Nat} (hi : i < rs.length) {x y z : Int} (he : rs.getD i (0, 0, 0) = (x, y, z)) : (2 ≤ x ∧ x ≤ 512) ∧ (1 ≤ y ∧ y ≤ 512) ∧ x + y ≤ 512 ∧ (1 ≤ z ∧ z ≤ 65535) ∧ x + y ≤ top := by
  have h1 := (h.1 i hi).1
  have h2 := h.2 i hi
  rw [he] at h1 h2
  exact ⟨h1.1, h1.2.1, h1.2.2.1, h1.2.2.2, h2⟩

set_option maxRecDepth 100000 in
set_option maxHeartbeats 4000000 in
theorem l2RunsOK_any (top : Int) (ht : 8 ≤ top ∧ top ≤ 512) (v : Value) (rs : List R3) (w : World) (hv : RRead w v rs) (hn : rs.length ≤ 1048576) :
    Calls Tryz.prog 50 #[v, .int .i64 top] w fun e w' => Below w.heap.size w w' ∧ ((okT top rs ∧ e = .returned (.bool true)) ∨ (¬ okT top rs ∧ e = .returned (.bool false))) := by
  obtain ⟨a, cap, rfl, hc⟩ := hv
  go_enter Tryz.func50, Tryz.ntmps50
  go_wp2
  go_loopw [5] (fun i wr => ∃ k : Nat, k ≤ rs.length ∧ i = .int .i64 k ∧ Below w.heap.size w wr ∧ okU top rs k) (fun i _ => rs.length - (intOf i).toNat)
  case atStart => exact ⟨0, Nat.zero_le _, rfl, Below.refl _ _, fun j hj => by omega⟩
  case round =>
    obtain ⟨k, hk, rfl, hb, hall⟩ := hrel
    by_cases hlt : k < rs.length
    · obtain ⟨b, off, rfl, hcell⟩ := hc (by omega)
      obtain ⟨g1, g2, g3⟩ := hcell k hlt
      have hbw : b < w.heap.size := World.block_lt_of_cell? _ _ g1
      rw [← hb.cell (p := ⟨b, off + k * 3, none⟩) hbw] at g1
      rw [← hb.cell (p := ⟨b, off + k * 3 + 1, none⟩) hbw] at g2
      rw [← hb.cell (p := ⟨b, off + k * 3 + 2, none⟩) hbw] at g3
      have hi : (k : Int) < (rs.length : Int) := by omega
      have HC : Hid (∀ j, j < rs.length → w.cell? ⟨b, off + j * 3, none⟩ = some (.int .i64 (rs.getD j (0, 0, 0)).1) ∧ w.cell? ⟨b, off + j * 3 + 1, none⟩ = some (.int .i64 (rs.getD j (0, 0, 0)).2.1) ∧ w.cell? ⟨b, off + j * 3 + 2, none⟩ = some (.int .i64 (rs.getD j (0, 0, 0)).2.2)) := hcell
      obtain ⟨p, HP⟩ : ∃ p, Hid (rs.getD k (0, 0, 0) = p) := ⟨_, rfl⟩
      rw [HP.out] at g1 g2 g3
      obtain ⟨x, y, z⟩ := p
      simp only at g1 g2 g3
      have HA : Hid (okU top rs k) := hall
      have hB := fun o => hb.trans ((belowA wr o).mono hb.size)
      have HNO : Hid (okT top rs → (2 ≤ x ∧ x ≤ 512) ∧ (1 ≤ y ∧ y ≤ 512) ∧ x + y ≤ 512 ∧ (1 ≤ z ∧ z ≤ 65535) ∧ x + y ≤ top) := fun h => okT_at h hlt HP.out
      clear hc hcell hall
      by_cases h1 : x < 2
      case pos =>
        go_wp2
        go_ret
        exact ⟨hB _, .inr ⟨fun h => by have := HNO.out h; omega, rfl⟩⟩
      by_cases h2 : top < x
      case pos =>
        go_wp2
        go_ret
        exact ⟨hB _, .inr ⟨fun h => by have := HNO.out h; omega, rfl⟩⟩
      by_cases h3 : y < 1
      case pos =>
        go_wp2
        go_ret
        exact ⟨hB _, .inr ⟨fun h => by have := HNO.out h; omega, rfl⟩⟩
      by_cases h4 : top < y
      case pos =>
        go_wp2
        go_ret
        exact ⟨hB _, .inr ⟨fun h => by have := HNO.out h; omega, rfl⟩⟩
      by_cases h5 : top < x + y
      case pos =>
        go_wp2
        go_ret
        exact ⟨hB _, .inr ⟨fun h => by have := HNO.out h; omega, rfl⟩⟩
      by_cases h6 : z < 1
      case pos =>
        go_wp2
        go_ret
        exact ⟨hB _, .inr ⟨fun h => by have := HNO.out h; omega, rfl⟩⟩
      by_cases h7 : 65535 < z
      case pos =>
        go_wp2
        go_ret
        exact ⟨hB _, .inr ⟨fun h => by have := HNO.out h; omega, rfl⟩⟩
      have HIN : Hid (inR (x, y, z) ∧ x + y ≤ top) := ⟨(show (2 ≤ x ∧ x ≤ 512) ∧ (1 ≤ y ∧ y ≤ 512) ∧ x + y ≤ 512 ∧ (1 ≤ z ∧ z ≤ 65535) by omega), by omega⟩
      by_cases hk0 : 0 < k
      · have hprev := (HA.out (k - 1) (by omega)).1
        obtain ⟨e1, e2, e3⟩ := HC.out (k - 1) (by omega)
        rw [← hb.cell (p := ⟨b, off + (k - 1) * 3, none⟩) hbw] at e1
        rw [← hb.cell (p := ⟨b, off + (k - 1) * 3 + 1, none⟩) hbw] at e2
        rw [← hb.cell (p := ⟨b, off + (k - 1) * 3 + 2, none⟩) hbw] at e3
        have hbw2 : b < wr.heap.size := by have := hb.size; omega
        obtain ⟨pp, HQ⟩ : ∃ p, Hid (rs.getD (k - 1) (0, 0, 0) = p) := ⟨_, rfl⟩
        rw [HQ.out] at e1 e2 e3 hprev
        obtain ⟨p, q, r⟩ := pp
        simp only at e1 e2 e3
        have hw1 : IntKind.i64.wrap ((k : Int) - 1) = ((k - 1 : Nat) : Int) := (IntWalk.i64_in _ ⟨by omega, by omega⟩).trans (by omega)
        have hi1 : ((k - 1 : Nat) : Int) < (rs.length : Int) := by omega
        have hki : (0 : Int) < (k : Int) := by omega
        have hp1 := hprev.1
        have hp2 := hprev.2.1
        simp only at hp1 hp2
        have HK : Hid (fol (p, q, r) (x, y, z) → okU top rs (k + 1)) := fun hf j hj => by
          by_cases e : j = k
          · subst e
            rw [HP.out]
            exact ⟨HIN.out.1, fun _ => by rw [HQ.out]; exact hf, HIN.out.2⟩
          · exact HA.out j (by omega)
        have HN2 : Hid (¬ fol (p, q, r) (x, y, z) → ¬ okT top rs) := fun hf h => hf (by have := (h.1 k hlt).2 hk0; rw [HP.out, HQ.out] at this; exact this)
        have HB2 := fun o o' => (show Hid (Below w.heap.size w ((wr.alloc o).alloc o')) from (hB o).trans ((belowA (wr.alloc o) o').mono (hB o).size))
        generalize hk1 : k - 1 = k1 at *
        clear hprev HIN
        by_cases f1 : x < p + q
        · have HNO2 : Hid (¬ okT top rs) := HN2.out (by unfold fol; simp only; omega)
          go_wp2
          go_ret
          exact ⟨(HB2 _ _).out, .inr ⟨HNO2.out, rfl⟩⟩
        · by_cases f2 : x = p + q
          · have f2' : (x == p + q) = true := by simpa using f2
            by_cases f3 : z = r
            · have HNO2 : Hid (¬ okT top rs) := HN2.out (by unfold fol; simp only; omega)
              have f3' : (z == r) = true := by simpa using f3
              clear f2 f3
              go_wp2
              go_ret
              exact ⟨(HB2 _ _).out, .inr ⟨HNO2.out, rfl⟩⟩
            · have HK2 : Hid (okU top rs (k + 1)) := HK.out (.inr ⟨f2, f3⟩)
              have f3' : (z == r) = false := by simpa using f3
              clear f2 f3
              go_wp2
              go_roundw
              case rel => exact ⟨k + 1, by omega, by go_num, (HB2 _ _).out, HK2.out⟩
              case measure => simp [intOf]; omega
          · have f2' : (x == p + q) = false := by simpa using f2
            have HK2 : Hid (okU top rs (k + 1)) := HK.out (.inl (by show p + q < x; omega))
            clear f2
            go_wp2
            go_roundw
            case rel => exact ⟨k + 1, by omega, by go_num, (HB2 _ _).out, HK2.out⟩
            case measure => simp [intOf]; omega
      · have hki : ¬ (0 : Int) < (k : Int) := by omega
        have HK2 : Hid (okU top rs (k + 1)) := fun j hj => by
          obtain rfl : j = k := by omega
          rw [HP.out]
          exact ⟨HIN.out.1, fun h => by omega, HIN.out.2⟩
        clear HIN
        go_wp2
        go_roundw
        case rel => exact ⟨k + 1, by omega, by go_num, hB _, HK2.out⟩
        case measure => simp [intOf]; omega
    · have hok : okT top rs := by
        have : k = rs.length := by omega
        subst this
        exact okU_end hall
      clear hall hc
      go_wp2
      go_ret
      exact ⟨hb, .inl ⟨hok, rfl⟩⟩
end Go.Proofs.YtfbjagjgofdheaaGreatDoor
