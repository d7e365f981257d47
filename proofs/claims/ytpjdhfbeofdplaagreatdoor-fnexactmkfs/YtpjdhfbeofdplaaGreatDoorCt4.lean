import Derived.Test.YtpjdhfbeofdplaaGreatDoorCt1
namespace Go.Proofs.YtpjdhfbeofdplaaGreatDoor
open Go.RowKit

/-- the runs are in order and end by top -/
def okT (top : Int) (rs : List R3) : Prop := okC rs ∧ ∀ i, i < rs.length → (rs.getD i (0, 0, 0)).1 + (rs.getD i (0, 0, 0)).2.1 ≤ top

/-- so far -/
def okU (top : Int) (rs : List R3) (k : Nat) : Prop := ∀ j, j < k → inR (rs.getD j (0, 0, 0)) ∧ (0 < j → fol (rs.getD (j - 1) (0, 0, 0)) (rs.getD j (0, 0, 0))) ∧ (rs.getD j (0, 0, 0)).1 + (rs.getD j (0, 0, 0)).2.1 ≤ top

theorem okU_end {top : Int} {rs : List R3} (h : okU top rs rs.length) : okT top rs := ⟨fun i hi => ⟨(h i hi).1, (h i hi).2.1⟩, fun i hi => (h i hi).2.2⟩
theorem okT_at {top : Int} {rs : List R3} (h : okT top rs) {i : Nat} (hi : i < rs.length) {x y z : Int} (he : rs.getD i (0, 0, 0) = (x, y, z)) : (2 ≤ x ∧ x ≤ 512) ∧ (1 ≤ y ∧ y ≤ 512) ∧ x + y ≤ 512 ∧ (1 ≤ z ∧ z ≤ 65535) ∧ x + y ≤ top := by
  have h1 := (h.1 i hi).1
  have h2 := h.2 i hi
  rw [he] at h1 h2
  exact ⟨h1.1, h1.2.1, h1.2.2.1, h1.2.2.2, h2⟩

set_option maxRecDepth 100000 in
set_option maxHeartbeats 4000000 in
theorem l2RunsOK_any (top : Int) (ht : 8 ≤ top ∧ top ≤ 512) (v : Value) (rs : List R3) (w : World) (hv : RRead w v rs) (hn : rs.length ≤ 1048576) :
    Calls Tryz.prog 49 #[v, .int .i64 top] w fun e w' => Below w.heap.size w w' ∧ ((okT top rs ∧ e = .returned (.bool true)) ∨ (¬ okT top rs ∧ e = .returned (.bool false))) := by
  obtain ⟨a, cap, rfl, hc⟩ := hv
  go_enter Tryz.func49, Tryz.ntmps49
  go_wp2
  go_loopw [5] (fun i wr => ∃ k : Nat, k ≤ rs.length ∧ i = .int .i64 k ∧ Below w.heap.size w wr ∧ okU top rs k) (fun i _ => rs.length - (intOf i).toNat)
  case atStart => exact ⟨0, Nat.zero_le _, rfl, Below.refl _ _, fun j hj => by omega⟩
  case round =>
    obtain ⟨k, hk, rfl, hb, hall⟩ := hrel
    by_cases hlt : k < rs.length
    · obtain ⟨b, off, rfl, hcell⟩ := hc (by omega)
      obtain ⟨g1, g2, g3⟩ := hcell k hlt
      have hbw : b < w.heap.size := World.block_lt_of_cell? _ _ g1
      rw [← hb.cell (p := ⟨b, off + k * 3, none⟩) hbw] at g1
      rw [← hb.cell (p := ⟨b, off + k * 3 + 1, none⟩) hbw] at g2
      rw [← hb.cell (p := ⟨b, off + k * 3 + 2, none⟩) hbw] at g3
      have hi : (k : Int) < (rs.length : Int) := by omega
      have HC : Hid (∀ j, j < rs.length → w.cell? ⟨b, off + j * 3, none⟩ = some (.int .i64 (rs.getD j (0, 0, 0)).1) ∧ w.cell? ⟨b, off + j * 3 + 1, none⟩ = some (.int .i64 (rs.getD j (0, 0, 0)).2.1) ∧ w.cell? ⟨b, off + j * 3 + 2, none⟩ = some (.int .i64 (rs.getD j (0, 0, 0)).2.2)) := hcell
      obtain ⟨p, HP⟩ : ∃ p, Hid (rs.getD k (0, 0, 0) = p) := ⟨_, rfl⟩
      rw [HP.out] at g1 g2 g3
      obtain ⟨x, y, z⟩ := p
      simp only at g1 g2 g3
      have HA : Hid (okU top rs k) := hall
      have hB := fun o => hb.trans ((belowA wr o).mono hb.size)
      have HNO : Hid (okT top rs → (2 ≤ x ∧ x ≤ 512) ∧ (1 ≤ y ∧ y ≤ 512) ∧ x + y ≤ 512 ∧ (1 ≤ z ∧ z ≤ 65535) ∧ x + y ≤ top) := fun h => okT_at h hlt HP.out
      clear hc hcell hall
      by_cases h1 : x < 2
      case pos =>
        go_wp2
        go_ret
        exact ⟨hB _, .inr ⟨fun h => by have := HNO.out h; omega, rfl⟩⟩
      by_cases h2 : top < x
      case pos =>
        go_wp2
        go_ret
        exact ⟨hB _, .inr ⟨fun h => by have := HNO.out h; omega, rfl⟩⟩
      by_cases h3 : y < 1
      case pos =>
        go_wp2
        go_ret
        exact ⟨hB _, .inr ⟨fun h => by have := HNO.out h; omega, rfl⟩⟩
      by_cases h4 : top < y
      case pos =>
        go_wp2
        go_ret
        exact ⟨hB _, .inr ⟨fun h => by have := HNO.out h; omega, rfl⟩⟩
      by_cases h5 : top < x + y
      case pos =>
        go_wp2
        go_ret
        exact ⟨hB _, .inr ⟨fun h => by have := HNO.out h; omega, rfl⟩⟩
      by_cases h6 : z < 1
      case pos =>
        go_wp2
        go_ret
        exact ⟨hB _, .inr ⟨fun h => by have := HNO.out h; omega, rfl⟩⟩
      by_cases h7 : 65535 < z
      case pos =>
        go_wp2
        go_ret
        exact ⟨hB _, .inr ⟨fun h => by have := HNO.out h; omega, rfl⟩⟩
      have HIN : Hid (inR (x, y, z) ∧ x + y ≤ top) := ⟨(show (2 ≤ x ∧ x ≤ 512) ∧ (1 ≤ y ∧ y ≤ 512) ∧ x + y ≤ 512 ∧ (1 ≤ z ∧ z ≤ 65535) by omega), by omega⟩
      by_cases hk0 : 0 < k
      · have hprev := (HA.out (k - 1) (by omega)).1
        obtain ⟨e1, e2, e3⟩ := HC.out (k - 1) (by omega)
        rw [← hb.cell (p := ⟨b, off + (k - 1) * 3, none⟩) hbw] at e1
        rw [← hb.cell (p := ⟨b, off + (k - 1) * 3 + 1, none⟩) hbw] at e2
        rw [← hb.cell (p := ⟨b, off + (k - 1) * 3 + 2, none⟩) hbw] at e3
        have hbw2 : b < wr.heap.size := by have := hb.size; omega
        obtain ⟨pp, HQ⟩ : ∃ p, Hid (rs.getD (k - 1) (0, 0, 0) = p) := ⟨_, rfl⟩
        rw [HQ.out] at e1 e2 e3 hprev
        obtain ⟨p, q, r⟩ := pp
        simp only at e1 e2 e3
        have hw1 : IntKind.i64.wrap ((k : Int) - 1) = ((k - 1 : Nat) : Int) := (IntWalk.i64_in _ ⟨by omega, by omega⟩).trans (by omega)
        have hi1 : ((k - 1 : Nat) : Int) < (rs.length : Int) := by omega
        have hki : (0 : Int) < (k : Int) := by omega
        have hp1 := hprev.1
        have hp2 := hprev.2.1
        simp only at hp1 hp2
        have HK : Hid (fol (p, q, r) (x, y, z) → okU top rs (k + 1)) := fun hf j hj => by
          by_cases e : j = k
          · subst e
            rw [HP.out]
            exact ⟨HIN.out.1, fun _ => by rw [HQ.out]; exact hf, HIN.out.2⟩
          · exact HA.out j (by omega)
        have HN2 : Hid (¬ fol (p, q, r) (x, y, z) → ¬ okT top rs) := fun hf h => hf (by have := (h.1 k hlt).2 hk0; rw [HP.out, HQ.out] at this; exact this)
        have HB2 := fun o o' => (show Hid (Below w.heap.size w ((wr.alloc o).alloc o')) from (hB o).trans ((belowA (wr.alloc o) o').mono (hB o).size))
        generalize hk1 : k - 1 = k1 at *
        clear hprev HIN
        by_cases f1 : x < p + q
        · have HNO2 : Hid (¬ okT top rs) := HN2.out (by unfold fol; simp only; omega)
          go_wp2
          go_ret
          exact ⟨(HB2 _ _).out, .inr ⟨HNO2.out, rfl⟩⟩
        · by_cases f2 : x = p + q
          · have f2' : (x == p + q) = true := by simpa using f2
            by_cases f3 : z = r
            · have HNO2 : Hid (¬ okT top rs) := HN2.out (by unfold fol; simp only; omega)
              have f3' : (z == r) = true := by simpa using f3
              clear f2 f3
              go_wp2
              go_ret
              exact ⟨(HB2 _ _).out, .inr ⟨HNO2.out, rfl⟩⟩
            · have HK2 : Hid (okU top rs (k + 1)) := HK.out (.inr ⟨f2, f3⟩)
              have f3' : (z == r) = false := by simpa using f3
              clear f2 f3
              go_wp2
              go_roundw
              case rel => exact ⟨k + 1, by omega, by go_num, (HB2 _ _).out, HK2.out⟩
              case measure => simp [intOf]; omega
          · have f2' : (x == p + q) = false := by simpa using f2
            have HK2 : Hid (okU top rs (k + 1)) := HK.out (.inl (by show p + q < x; omega))
            clear f2
            go_wp2
            go_roundw
            case rel => exact ⟨k + 1, by omega, by go_num, (HB2 _ _).out, HK2.out⟩
            case measure => simp [intOf]; omega
      · have hki : ¬ (0 : Int) < (k : Int) := by omega
        have HK2 : Hid (okU top rs (k + 1)) := fun j hj => by
          obtain rfl : j = k := by omega
          rw [HP.out]
          exact ⟨HIN.out.1, fun h => by omega, HIN.out.2⟩
        clear HIN
        go_wp2
        go_roundw
        case rel => exact ⟨k + 1, by omega, by go_num, hB _, HK2.out⟩
        case measure => simp [intOf]; omega
    · have hok : okT top rs := by
        have : k = rs.length := by omega
        subst this
        exact okU_end hall
      clear hall hc
      go_wp2
      go_ret
      exact ⟨hb, .inl ⟨hok, rfl⟩⟩
end Go.Proofs.YtpjdhfbeofdplaaGreatDoor
