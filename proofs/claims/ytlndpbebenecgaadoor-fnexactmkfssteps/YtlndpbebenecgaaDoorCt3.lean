import Derived.Test.YtlndpbebenecgaaDoorCt2
import Derived.Deep.RegionHeld3
namespace Go.Proofs.YtlndpbebenecgaaDoor
open Go.RowKit

/-- the runs are in order -/
def okC (rs : List R3) : Prop := ∀ i, i < rs.length → inR (rs.getD i (0, 0, 0)) ∧ (0 < i → fol (rs.getD (i - 1) (0, 0, 0)) (rs.getD i (0, 0, 0)))

theorem belowA (w : World) (o : Obj) : Below w.heap.size w (w.alloc o) := (Below.refl _ _).alloc (Nat.le_refl _) _

theorem six_cells {w w1 w3 : World} {g b o : Nat} {x y z p q r : Value} (hX : w1.cell? ⟨g, 0, none⟩ = some x ∧ w1.cell? ⟨g, 1, none⟩ = some y ∧ w1.cell? ⟨g, 2, none⟩ = some z ∧ w1.cell? ⟨b, o, none⟩ = some p ∧ w1.cell? ⟨b, o + 1, none⟩ = some q ∧ w1.cell? ⟨b, o + 2, none⟩ = some r) (hw : w.heap = w1.heap) (h : Below w.heap.size w w3) :
    w3.cell? ⟨g, 0, none⟩ = some x ∧ w3.cell? ⟨g, 1, none⟩ = some y ∧ w3.cell? ⟨g, 2, none⟩ = some z ∧ w3.cell? ⟨b, o, none⟩ = some p ∧ w3.cell? ⟨b, o + 1, none⟩ = some q ∧ w3.cell? ⟨b, o + 2, none⟩ = some r := by
  obtain ⟨x0, x1, x2, g1, g2, g3⟩ := hX
  have e1 := World.block_lt_of_cell? _ _ x0
  have e2 := World.block_lt_of_cell? _ _ g1
  have k : ∀ (c d : Nat) (u : Value), c < w1.heap.size → w1.cell? ⟨c, d, none⟩ = some u → w3.cell? ⟨c, d, none⟩ = some u := fun c d u hc hu => (h.cell (p := ⟨c, d, none⟩) (by rw [hw]; exact hc)).trans ((World.cell?_of_block (a := ⟨c, d, none⟩) (by rw [hw])).trans hu)
  exact ⟨k _ _ _ e1 x0, k _ _ _ e1 x1, k _ _ _ e1 x2, k _ _ _ e2 g1, k _ _ _ e2 g2, k _ _ _ e2 g3⟩

set_option maxRecDepth 100000 in
set_option maxHeartbeats 2000000 in
theorem checkRuns_any {w : World} {adr : Nat → Addr} (hL : Laid w adr) (v : Value) (rs : List R3) (hv : RRead w v rs) (hn : rs.length ≤ 1048576) :
    Calls Tryd.prog 136 #[v] w fun e w' => Below w.heap.size w w' ∧ ((okC rs ∧ e = .returned .nilIface) ∨ (¬ okC rs ∧ ∃ u g, e = .returned u ∧ PErr w' adr u g ∧ cdOf g = 5)) := by
  obtain ⟨a, cap, rfl, hc⟩ := hv
  go_enter Tryd.func136, Tryd.ntmps136
  go_wp2
  go_loopw [8] (fun i wr => ∃ k : Nat, k ≤ rs.length ∧ i = .int .i64 k ∧ Below w.heap.size w wr ∧ ∀ j, j < k → inR (rs.getD j (0, 0, 0)) ∧ (0 < j → fol (rs.getD (j - 1) (0, 0, 0)) (rs.getD j (0, 0, 0)))) (fun i _ => rs.length - (intOf i).toNat)
  case atStart => exact ⟨0, Nat.zero_le _, rfl, Below.refl _ _, fun j hj => by omega⟩
  case round =>
    obtain ⟨k, hk, rfl, hb, hall⟩ := hrel
    by_cases hlt : k < rs.length
    · obtain ⟨b, off, rfl, hcell⟩ := hc (by omega)
      obtain ⟨g1, g2, g3⟩ := hcell k hlt
      have hbw : b < w.heap.size := World.block_lt_of_cell? _ _ g1
      rw [← hb.cell (p := ⟨b, off + k * 3, none⟩) hbw] at g1
      rw [← hb.cell (p := ⟨b, off + k * 3 + 1, none⟩) hbw] at g2
      rw [← hb.cell (p := ⟨b, off + k * 3 + 2, none⟩) hbw] at g3
      have hi : (k : Int) < (rs.length : Int) := by omega
      have HC : Hid (∀ j, j < rs.length → w.cell? ⟨b, off + j * 3, none⟩ = some (.int .i64 (rs.getD j (0, 0, 0)).1) ∧ w.cell? ⟨b, off + j * 3 + 1, none⟩ = some (.int .i64 (rs.getD j (0, 0, 0)).2.1) ∧ w.cell? ⟨b, off + j * 3 + 2, none⟩ = some (.int .i64 (rs.getD j (0, 0, 0)).2.2)) := hcell
      obtain ⟨p, HP⟩ : ∃ p, Hid (rs.getD k (0, 0, 0) = p) := ⟨_, rfl⟩
      rw [HP.out] at g1 g2 g3
      obtain ⟨x, y, z⟩ := p
      simp only at g1 g2 g3
      have hL1 := hL.below hb
      have c0 := hL1.var 6 (by decide)
      have c1 := hL1.var 7 (by decide)
      clear hc hcell
      go_wp2_with fail
      have hbA := belowA wr (.cells #[.int .i64 x, .int .i64 y, .int .i64 z] 83)
      refine (inBounds_any x y z _).mono ?_
      rintro e w1 ⟨rfl, hb1⟩
      have hbx := hbA.trans (hb1.mono hbA.size)
      have hb2 := hb.trans (hbx.mono hb.size)
      have x0 : w1.cell? ⟨wr.heap.size, 0, none⟩ = some (.int .i64 x) := (hb1.cell (p := ⟨wr.heap.size, 0, none⟩) (by simp)).trans (World.cell?_alloc_at _ _ _ _ rfl)
      have x1 : w1.cell? ⟨wr.heap.size, 1, none⟩ = some (.int .i64 y) := (hb1.cell (p := ⟨wr.heap.size, 1, none⟩) (by simp)).trans (World.cell?_alloc_at _ _ _ _ rfl)
      have x2 : w1.cell? ⟨wr.heap.size, 2, none⟩ = some (.int .i64 z) := (hb1.cell (p := ⟨wr.heap.size, 2, none⟩) (by simp)).trans (World.cell?_alloc_at _ _ _ _ rfl)
      have hL2 := hL.below hb2
      have d0 := hL2.var 6 (by decide)
      have d1 := hL2.var 7 (by decide)
      have hs1 := hbx.size
      clear hL1 c0 c1 g1 g2 g3 hbA hb1
      by_cases hin : inR (x, y, z)
      · rw [inRb_t hin]
        by_cases hk0 : 0 < k
        · have hprev := (hall (k - 1) (by omega)).1
          obtain ⟨g1, g2, g3⟩ := HC.out (k - 1) (by omega)
          rw [← hb2.cell (p := ⟨b, off + (k - 1) * 3, none⟩) hbw] at g1
          rw [← hb2.cell (p := ⟨b, off + (k - 1) * 3 + 1, none⟩) hbw] at g2
          rw [← hb2.cell (p := ⟨b, off + (k - 1) * 3 + 2, none⟩) hbw] at g3
          obtain ⟨pp, HQ⟩ : ∃ p, Hid (rs.getD (k - 1) (0, 0, 0) = p) := ⟨_, rfl⟩
          rw [HQ.out] at g1 g2 g3 hprev
          obtain ⟨p, q, r⟩ := pp
          simp only at g1 g2 g3
          have hw1 : IntKind.i64.wrap ((k : Int) - 1) = ((k - 1 : Nat) : Int) := (IntWalk.i64_in _ ⟨by omega, by omega⟩).trans (by omega)
          have hi1 : ((k - 1 : Nat) : Int) < (rs.length : Int) := by omega
          have hki : (0 : Int) < (k : Int) := by omega
          have hp1 := hprev.1
          have hp2 := hprev.2.1
          simp only at hp1 hp2
          generalize hk1 : k - 1 = k1 at *
          have HX : Hid (w1.cell? ⟨wr.heap.size, 0, none⟩ = some (.int .i64 x) ∧ w1.cell? ⟨wr.heap.size, 1, none⟩ = some (.int .i64 y) ∧ w1.cell? ⟨wr.heap.size, 2, none⟩ = some (.int .i64 z) ∧ w1.cell? ⟨b, off + k1 * 3, none⟩ = some (.int .i64 p) ∧ w1.cell? ⟨b, off + k1 * 3 + 1, none⟩ = some (.int .i64 q) ∧ w1.cell? ⟨b, off + k1 * 3 + 2, none⟩ = some (.int .i64 r)) := ⟨x0, x1, x2, g1, g2, g3⟩
          clear hprev
          go_wp2_with fail
          go_region_held3 (fun w' => w'.cell? ⟨wr.heap.size, 0, none⟩ = some (.int .i64 x) ∧ w'.cell? ⟨wr.heap.size, 1, none⟩ = some (.int .i64 y) ∧ w'.cell? ⟨wr.heap.size, 2, none⟩ = some (.int .i64 z) ∧ w'.cell? ⟨b, off + k1 * 3, none⟩ = some (.int .i64 p) ∧ w'.cell? ⟨b, off + k1 * 3 + 1, none⟩ = some (.int .i64 q) ∧ w'.cell? ⟨b, off + k1 * 3 + 2, none⟩ = some (.int .i64 r)) (first | go_keep | assumption)
            ((go_at_call 137; refine (mayFollow_any x y z p q r (by omega) (by omega) _).mono ?_; rintro e w3 ⟨rfl, hb3⟩; have hXX := six_cells (w := w1.drew) HX.out rfl hb3))
          have hb4 : Below w.heap.size w w3 := hb2.drew.trans (hb3.mono hb2.size)
          have HIN : Hid (inR (x, y, z)) := hin
          clear hXX HX x0 x1 x2 g1 g2 g3 hb3 hin
          by_cases hf : fol (p, q, r) (x, y, z)
          · rw [folb_t hf]
            have HF : Hid (∀ j, j < k + 1 → inR (rs.getD j (0, 0, 0)) ∧ (0 < j → fol (rs.getD (j - 1) (0, 0, 0)) (rs.getD j (0, 0, 0)))) := fun j hj => by
              by_cases e : j = k
              · subst e
                rw [HP.out]
                exact ⟨HIN.out, fun _ => by rw [hk1, HQ.out]; exact hf⟩
              · exact hall j (by omega)
            clear hall hf
            go_wp2
            go_roundw
            case rel => exact ⟨k + 1, by omega, by go_num, hb4, HF.out⟩
            case measure => simp [intOf]; omega
          · rw [folb_f hf]
            have hno : ¬ okC rs := fun h => hf (by have := (h k hlt).2 hk0; rw [hk1, HP.out, HQ.out] at this; exact this)
            have hL3 := hL.below hb4
            have d2 := hL3.var 7 (by decide)
            have HE : Hid (∀ pl : Value, PErr (w3.alloc (.cells #[pl, .iface 212 (.pointer (some (adr 7)))] 166)) adr (.iface 151 (.pointer (some ⟨w3.heap.size, 0, none⟩))) 7) := fun pl => ⟨by decide, w3.heap.size, 0, rfl, World.cell?_alloc_at _ _ _ _ rfl⟩
            have hbE := fun o => hb4.trans ((belowA w3 o).mono hb4.size)
            clear hall hf d0 d1
            go_wp2
            go_ret
            exact ⟨hbE _, .inr ⟨hno, _, _, rfl, HE.out _, rfl⟩⟩
        · have hki : ¬ (0 : Int) < (k : Int) := by omega
          have HF : Hid (∀ j, j < k + 1 → inR (rs.getD j (0, 0, 0)) ∧ (0 < j → fol (rs.getD (j - 1) (0, 0, 0)) (rs.getD j (0, 0, 0)))) := fun j hj => by
            obtain rfl : j = k := by omega
            rw [HP.out]
            exact ⟨hin, fun h => by omega⟩
          clear hall hin
          go_wp2
          go_quiet (fail)
          go_wp2
          go_roundw
          case rel => exact ⟨k + 1, by omega, by go_num, below_drewN hb2 _, HF.out⟩
          case measure => simp [intOf]; omega
      · rw [inRb_f hin]
        have hno : ¬ okC rs := fun h => hin (by have := (h k hlt).1; rw [HP.out] at this; exact this)
        have HE : Hid (∀ pl : Value, PErr (w1.alloc (.cells #[pl, .iface 212 (.pointer (some (adr 6)))] 166)) adr (.iface 151 (.pointer (some ⟨w1.heap.size, 0, none⟩))) 6) := fun pl => ⟨by decide, w1.heap.size, 0, rfl, World.cell?_alloc_at _ _ _ _ rfl⟩
        have hbE := fun o => hb2.trans ((belowA w1 o).mono hb2.size)
        clear hall x0 x1 x2
        go_wp2
        go_ret
        exact ⟨hbE _, .inr ⟨hno, _, _, rfl, HE.out _, rfl⟩⟩
    · have hok : okC rs := fun i hi => hall i (by omega)
      clear hall hc
      go_wp2
      go_ret
      exact ⟨hb, .inl ⟨hok, rfl⟩⟩
end Go.Proofs.YtlndpbebenecgaaDoor
