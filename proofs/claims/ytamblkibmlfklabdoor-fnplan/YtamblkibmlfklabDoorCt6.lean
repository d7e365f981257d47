import Derived.Test.YtamblkibmlfklabDoorCt5
namespace Go.Proofs.YtamblkibmlfklabDoor
open Go.RowKit
set_option linter.unusedVariables false

def hit (r : R3) (b : Int) : Bool := decide (r.1 ≤ b) && decide (b < r.1 + r.2.1)
/-- the count that the first k runs tell of block b -/
def cnt (rs : List R3) (b : Int) : Nat → Int
  | 0 => 0
  | k + 1 => if hit (rs.getD k (0, 0, 0)) b then (rs.getD k (0, 0, 0)).2.2 else cnt rs b k
theorem cnt_none {rs : List R3} {b : Int} : ∀ {k : Nat}, (∀ i, i < k → hit (rs.getD i (0, 0, 0)) b = false) → cnt rs b k = 0
  | 0, _ => rfl
  | k + 1, h => by
    simp only [cnt]
    rw [h k (by omega)]
    simpa using cnt_none fun i hi => h i (by omega)
theorem cnt_at {rs : List R3} {b : Int} {m : Nat} (hm : hit (rs.getD m (0, 0, 0)) b = true) : ∀ {k : Nat}, m < k → (∀ i, m < i → i < k → hit (rs.getD i (0, 0, 0)) b = false) → cnt rs b k = (rs.getD m (0, 0, 0)).2.2
  | 0, h, _ => by omega
  | k + 1, h, hn => by
    simp only [cnt]
    by_cases e : m = k
    · subst e; rw [hm]; rfl
    · rw [hn k (by omega) (by omega)]
      simpa using cnt_at hm (by omega) fun i h1 h2 => hn i h1 (by omega)
theorem cnt_small {rs : List R3} (h : okC rs) (b : Int) : ∀ {k : Nat}, k ≤ rs.length → 0 ≤ cnt rs b k ∧ cnt rs b k ≤ 65535
  | 0, _ => by simp [cnt]
  | k + 1, hk => by
    have ih := cnt_small h b (k := k) (by omega)
    have hr := (h k (by omega)).1.2.2.2
    simp only [cnt]
    split
    · omega
    · exact ih

/-- runs lie apart -/
theorem okC_apart {rs : List R3} (h : okC rs) (i : Nat) : ∀ d, i + d + 1 < rs.length → (rs.getD i (0, 0, 0)).1 + (rs.getD i (0, 0, 0)).2.1 ≤ (rs.getD (i + d + 1) (0, 0, 0)).1
  | 0, hd => by
    have := (h (i + 1) (by omega)).2 (by omega)
    rw [show i + 1 - 1 = i by omega] at this
    rcases this with e | e <;> (show _ ≤ (rs.getD (i + 1) (0, 0, 0)).1; omega)
  | d + 1, hd => by
    have ih := okC_apart h i d (by omega)
    have h1 := (h (i + d + 1) (by omega)).1.2.1
    have := (h (i + d + 1 + 1) (by omega)).2 (by omega)
    rw [show i + d + 1 + 1 - 1 = i + d + 1 by omega] at this
    have e2 : i + (d + 1) + 1 = i + d + 1 + 1 := by omega
    rw [e2]
    rcases this with e | e <;> omega
theorem okC_apart' {rs : List R3} (h : okC rs) {i j : Nat} (hij : i < j) (hj : j < rs.length) : (rs.getD i (0, 0, 0)).1 + (rs.getD i (0, 0, 0)).2.1 ≤ (rs.getD j (0, 0, 0)).1 := by
  have := okC_apart h i (j - i - 1) (by omega)
  rwa [show i + (j - i - 1) + 1 = j by omega] at this
theorem okC_mono {rs : List R3} (h : okC rs) : Mono rs := fun i j hij hj => by
  by_cases e : i = j
  · rw [e]; exact Int.le_refl _
  · have h1 := okC_apart' h (by omega : i < j) hj
    have h2 := (h i (by omega)).1.2.1
    omega

theorem hit_no {r : R3} {b : Int} (h : ¬ (r.1 ≤ b ∧ b < r.1 + r.2.1)) : hit r b = false := by
  unfold hit
  rw [← Bool.not_eq_true]
  simp only [Bool.and_eq_true, decide_eq_true_eq]
  exact h
theorem hit_yes {r : R3} {b : Int} (h : r.1 ≤ b ∧ b < r.1 + r.2.1) : hit r b = true := by
  unfold hit
  simp only [Bool.and_eq_true, decide_eq_true_eq]
  exact h

set_option maxHeartbeats 1000000 in
theorem countIn_any (v : Value) (rs : List R3) (b : Nat) (hb512 : b ≤ 512) (w : World) (hv : RRead w v rs) (hn : rs.length ≤ 1048576) (hok : okC rs) :
    Calls Tryd.prog 25 #[v, .int .i64 b] w fun e w' => e = .returned (.int .i64 (cnt rs b rs.length)) ∧ Below w.heap.size w w' := by
  obtain ⟨a, cap, hve, hc⟩ := id hv
  subst hve
  go_enter Tryd.func25, Tryd.ntmps25
  go_wp2_with fail
  refine (placeOf_any _ rs ((b : Int) + 1) _ hv hn (okC_mono hok)).mono ?_
  rintro e w1 ⟨hb1, i, bb, rfl, h1, h2, h3⟩
  by_cases hi0 : i = 0
  · subst hi0
    have HC : Hid (cnt rs b rs.length = 0) := cnt_none fun k hk => hit_no fun e => by have := h3 k (by omega) hk; omega
    clear h2 h3 hc
    go_wp2
    go_ret
    exact ⟨by rw [HC.out]; rfl, hb1⟩
  · obtain ⟨bk, off, rfl, hcell⟩ := hc (by omega)
    obtain ⟨g1, g2, g3⟩ := hcell (i - 1) (by omega)
    have hbw : bk < w.heap.size := World.block_lt_of_cell? _ _ g1
    rw [← hb1.cell (p := ⟨bk, off + (i - 1) * 3, none⟩) hbw] at g1
    rw [← hb1.cell (p := ⟨bk, off + (i - 1) * 3 + 1, none⟩) hbw] at g2
    rw [← hb1.cell (p := ⟨bk, off + (i - 1) * 3 + 2, none⟩) hbw] at g3
    have hlo := h2 (i - 1) (by omega)
    have hin := (hok (i - 1) (by omega)).1
    obtain ⟨p, HP⟩ : ∃ p, Hid (rs.getD (i - 1) (0, 0, 0) = p) := ⟨_, rfl⟩
    have HCY : Hid ((b : Int) < (rs.getD (i - 1) (0, 0, 0)).1 + (rs.getD (i - 1) (0, 0, 0)).2.1 → cnt rs b rs.length = (rs.getD (i - 1) (0, 0, 0)).2.2) := fun h => cnt_at (hit_yes ⟨by omega, h⟩) (by omega) fun k k1 k2 => hit_no fun e => by have := h3 k (by omega) k2; omega
    have HCN : Hid (¬ (b : Int) < (rs.getD (i - 1) (0, 0, 0)).1 + (rs.getD (i - 1) (0, 0, 0)).2.1 → cnt rs b rs.length = 0) := fun h => cnt_none fun k hk => hit_no fun e => by
      by_cases k1 : k < i - 1
      · have := okC_apart' hok k1 (by omega)
        omega
      · by_cases k2 : k = i - 1
        · subst k2; omega
        · have := h3 k (by omega) hk
          omega
    rw [HP.out] at g1 g2 g3 hlo hin HCY HCN
    obtain ⟨x, y, z⟩ := p
    simp only at g1 g2 g3 hlo HCY HCN
    have hx : (2 ≤ x ∧ x ≤ 512) ∧ (1 ≤ y ∧ y ≤ 512) := ⟨hin.1, hin.2.1⟩
    have hw1 : IntKind.i64.wrap ((i : Int) - 1) = ((i - 1 : Nat) : Int) := (IntWalk.i64_in _ ⟨by omega, by omega⟩).trans (by omega)
    have hi1 : ((i - 1 : Nat) : Int) < (rs.length : Int) := by omega
    have hne : ((i : Int) == 0) = false := beq_eq_false_iff_ne.2 (by omega)
    have hbB := fun o => hb1.trans ((belowA w1 o).mono hb1.size)
    generalize i - 1 = i1 at *
    clear h2 h3 hc hcell hin HP
    by_cases hlt : (b : Int) < x + y
    · have HC : Hid (cnt rs b rs.length = z) := HCY.out hlt
      have hge : ¬ x + y ≤ (b : Int) := by omega
      go_wp2
      go_ret
      exact ⟨by rw [HC.out]; rfl, hbB _⟩
    · have HC : Hid (cnt rs b rs.length = 0) := HCN.out hlt
      have hge : x + y ≤ (b : Int) := by omega
      go_wp2
      go_ret
      exact ⟨by rw [HC.out]; rfl, hbB _⟩
end Go.Proofs.YtamblkibmlfklabDoor
