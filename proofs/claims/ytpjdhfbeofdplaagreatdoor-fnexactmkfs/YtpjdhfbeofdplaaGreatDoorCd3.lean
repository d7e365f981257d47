import Derived.Test.YtpjdhfbeofdplaaGreatDoorCd1
import Derived.Test.YtpjdhfbeofdplaaGreatDoorCt4
namespace Go.Proofs.YtpjdhfbeofdplaaGreatDoor
open Go.RowKit

/-- the next table block's number may stand -/
def nxOK (nx : Int) : Prop := nx = 0 ∨ 2 ≤ nx ∧ nx ≤ 511
/-- the table block may be laid down -/
def tbOK (nx : Int) (rs : List R3) : Prop := nxOK nx ∧ rs.length ≤ 20 ∧ okT 512 rs
/-- the first k runs laid down behind the head -/
def tabP (nx : Int) (rs : List R3) : Nat → List Int
  | 0 => [3, (rs.length : Int)] ++ leN nx 2
  | k + 1 => tabP nx rs k ++ leN (rs.getD k (0, 0, 0)).1 2 ++ leN (rs.getD k (0, 0, 0)).2.1 2 ++ leN (rs.getD k (0, 0, 0)).2.2 2
theorem tabP_length (nx : Int) (rs : List R3) (k : Nat) : (tabP nx rs k).length = 4 + 6 * k := by
  induction k with
  | zero => simp [tabP, leN_length]
  | succ k ih => simp [tabP, leN_length, ih]; omega
theorem tabP_byt (nx : Int) (rs : List R3) (hl : rs.length ≤ 20) (k : Nat) : Byt (tabP nx rs k) := by
  induction k with
  | zero =>
    refine Byt.append (fun i => ?_) (Byt.le _ _)
    match i with
    | 0 => simp
    | 1 => simp; omega
    | i + 2 => simp
  | succ k ih => exact ((ih.append (Byt.le _ _)).append (Byt.le _ _)).append (Byt.le _ _)
/-- the block -/
def tabL (nx : Int) (rs : List R3) : List Int := sealL (tabP nx rs rs.length)

theorem Row8.lower {base base' : Nat} {w : World} {v : Value} {zs : List Int} (h : Row8 base w v zs) (hb : base' ≤ base) : Row8 base' w v zs := by
  refine ⟨h.1, ?_⟩
  rcases h.2 with hn | ⟨g, cap, cur, hv, hg, rest⟩
  · exact .inl hn
  · exact .inr ⟨g, cap, cur, hv, Nat.le_trans hb hg, rest⟩
theorem Row8.two (base : Nat) (w : World) (hb : base ≤ w.heap.size) (a b : Int) : Row8 base (w.alloc (.cells #[.int .u8 a, .int .u8 b] 5)) (.slice (some ⟨w.heap.size, 0, none⟩) 2 2) [a, b] :=
  World.ownsRow_lit (e := 5) (size := 1) w #[.int .u8 a, .int .u8 b] 2 hb (by decide) rfl

set_option maxRecDepth 100000 in
set_option maxHeartbeats 2000000 in
theorem specEncT_yes (nx : Int) (a : Option Addr) (c : Nat) (rs : List R3) (w : World) (hv : RRead w (.slice a rs.length c) rs) (hok : tbOK nx rs) :
    Calls Tryz.prog 35 #[.agg #[.int .i64 nx, .slice a rs.length c]] w fun e w' => ∃ u, e = .returned (.tuple #[u, .int .i64 0]) ∧ Row8 w.heap.size w' u (tabL nx rs) ∧ Below w.heap.size w w' := by
  obtain ⟨hnx, hl, hT⟩ := hok
  have hb0 := belowA w (.cells #[.int .i64 nx, .slice a rs.length c] 84)
  have hl' : ¬ (20 : Int) < (rs.length : Int) := by omega
  have HE : Hid (tabL nx rs = sealL (tabP nx rs rs.length)) := rfl
  have HT : Hid (okT 512 rs) := hT
  clear hT
  go_enter Tryz.func35, Tryz.ntmps35
  have hcase : (nx != 0) = false ∨ ((nx != 0) = true ∧ ¬ nx < 2 ∧ ¬ 512 ≤ nx) := by
    rcases hnx with h | h
    · exact .inl (by simp [h])
    · exact .inr ⟨by simp; omega, by omega, by omega⟩
  clear hnx
  rcases hcase with hn0 | ⟨hn0, hn1, hn2⟩
  all_goals
    go_wp2_with fail
    refine (l2RunsOK_any 512 (by omega) _ rs _ (hv.below hb0) (by omega)).mono ?_
    rintro e w1 ⟨hb1, ⟨-, rfl⟩ | ⟨hno, -⟩⟩
    case inr => exact absurd HT.out hno
    have hB1 := hb0.trans (hb1.mono (by simp))
    have hs1 := hb1.size
    have k0 : w1.cell? ⟨w.heap.size, 0, none⟩ = some (.int .i64 nx) := (hb1.cell (p := ⟨w.heap.size, 0, none⟩) (by simp)).trans (World.cell?_alloc_at _ _ _ _ rfl)
    have k1 : w1.cell? ⟨w.heap.size, 1, none⟩ = some (.slice a rs.length c) := (hb1.cell (p := ⟨w.heap.size, 1, none⟩) (by simp)).trans (World.cell?_alloc_at _ _ _ _ rfl)
    simp only [World.size_alloc] at hs1
    have hr2 := Row8.two w1.heap.size w1 (Nat.le_refl _) 3 rs.length
    have hlt1 : w.heap.size < w1.heap.size := by omega
    go_wp2_with fail
    refine (l2Num_any _ [3, (rs.length : Int)] nx 2 w1.heap.size _ hr2 (by simp) (by simp) (by omega)).mono ?_
    rintro e w2 ⟨u2, rfl, hR2, hb2⟩
    have hx2 : Below w1.heap.size w1 w2 := (belowA w1 _).trans hb2
    have HBX : Hid (∀ X : World, Below w1.heap.size w1 X → X.cell? ⟨w.heap.size, 1, none⟩ = some (.slice a rs.length c)) := fun X hX => (hX.cell (p := ⟨w.heap.size, 1, none⟩) hlt1).trans k1
    have HRX : Hid (∀ X : World, Below w1.heap.size w1 X → RRead X (.slice a rs.length c) rs) := fun X hX => (hv.below hB1).below hX
    have HT0 : Hid (tabP nx rs 0 = [3, (rs.length : Int)] ++ leN nx 2) := rfl
    rw [← HT0.out] at hR2
    clear k0 k1 hr2 hb2 hv
    go_wp2
    go_loopw [4, 5] (fun u i wr => ∃ k : Nat, k ≤ rs.length ∧ i = .int .i64 k ∧ Row8 w1.heap.size wr u (tabP nx rs k) ∧ Below w1.heap.size w1 wr) (fun _ i _ => rs.length - (intOf i).toNat)
    case atStart => exact ⟨0, Nat.zero_le _, rfl, hR2, hx2⟩
    case round =>
      obtain ⟨k, hk, rfl, hown, hX⟩ := hrel
      obtain ⟨ua, uc, hua⟩ := hown.shape
      subst hua
      have b1 := HBX.out _ hX
      have hsX := hX.size
      by_cases hlt : k < rs.length
      · have hki : (k : Int) < (rs.length : Int) := by omega
        have hrd := HRX.out _ hX
        obtain ⟨_, _, he, hc⟩ := hrd
        simp only [Value.slice.injEq, true_and] at he
        obtain ⟨rfl, rfl⟩ := he
        obtain ⟨b, off, rfl, hcell⟩ := hc (by omega)
        obtain ⟨g1, g2, g3⟩ := hcell k hlt
        have HSN : Hid (tabP nx rs (k + 1) = tabP nx rs k ++ leN (rs.getD k (0, 0, 0)).1 2 ++ leN (rs.getD k (0, 0, 0)).2.1 2 ++ leN (rs.getD k (0, 0, 0)).2.2 2) := rfl
        have hln := tabP_length nx rs k
        obtain ⟨p, HP⟩ : ∃ p, Hid (rs.getD k (0, 0, 0) = p) := ⟨_, rfl⟩
        rw [HP.out] at g1 g2 g3 HSN
        obtain ⟨x, y, z⟩ := p
        simp only at g1 g2 g3 HSN
        have HLN : Hid ((tabP nx rs k).length = 4 + 6 * k) := hln
        have HR : Hid (∀ X : World, Below w1.heap.size w1 X → X.cell? ⟨b, off + k * 3 + 1, none⟩ = some (.int .i64 y) ∧ X.cell? ⟨b, off + k * 3 + 2, none⟩ = some (.int .i64 z)) := fun X hX => by
          obtain ⟨_, _, he, hc⟩ := HRX.out X hX
          simp only [Value.slice.injEq, true_and] at he
          obtain ⟨rfl, rfl⟩ := he
          obtain ⟨b', off', he, hcell⟩ := hc (by omega)
          simp only [Option.some.injEq, Addr.mk.injEq, and_true] at he
          obtain ⟨rfl, rfl⟩ := he
          have := hcell k hlt
          rw [HP.out] at this
          exact this.2
        clear hcell hc hln
        generalize htk : tabP nx rs k = tk at *
        go_wp2_with fail
        refine (l2Num_any _ tk x 2 w1.heap.size _ hown (by omega) (by rw [HLN.out]; omega) (by omega)).mono ?_
        rintro e w3 ⟨u3, rfl, hR3, hb3⟩
        have hX3 := hX.trans hb3
        have b3 := HBX.out _ hX3
        obtain ⟨g2', g3'⟩ := HR.out _ hX3
        have hs3 := hX3.size
        have HL3 : Hid ((tk ++ leN x 2).length = 6 + 6 * k) := by rw [Hid, List.length_append, leN_length, HLN.out]; omega
        have HS3 : Hid (tabP nx rs (k + 1) = tk ++ leN x 2 ++ leN y 2 ++ leN z 2) := HSN.out
        clear g1 g2 g3 b1 hown HLN HSN hb3
        generalize tk ++ leN x 2 = t3 at *
        obtain ⟨va, vc, hva⟩ := hR3.shape
        subst hva
        go_wp2_with fail
        refine (l2Num_any _ t3 y 2 w1.heap.size _ hR3 (by omega) (by rw [HL3.out]; omega) (by omega)).mono ?_
        rintro e w4 ⟨u4, rfl, hR4, hb4⟩
        have hX4 := hX3.trans hb4
        have b4 := HBX.out _ hX4
        obtain ⟨-, g3''⟩ := HR.out _ hX4
        have hs4 := hX4.size
        have HL4 : Hid ((t3 ++ leN y 2).length = 8 + 6 * k) := by rw [Hid, List.length_append, leN_length, HL3.out]; omega
        clear g2' g3' b3 hR3 HL3 hb4
        generalize t3 ++ leN y 2 = t4 at *
        obtain ⟨va, vc, hva⟩ := hR4.shape
        subst hva
        go_wp2_with fail
        refine (l2Num_any _ t4 z 2 w1.heap.size _ hR4 (by omega) (by rw [HL4.out]; omega) (by omega)).mono ?_
        rintro e w5 ⟨u5, rfl, hR5, hb5⟩
        rw [← HS3.out] at hR5
        have hX5 := hX4.trans hb5
        go_wp2
        go_roundw
        case rel => exact ⟨k + 1, by omega, by go_num, hR5, hX5⟩
        case measure => simp [intOf]; omega
      · obtain rfl : k = rs.length := by omega
        have hl2 : (tabP nx rs rs.length).length ≤ 124 := by rw [tabP_length]; omega
        have HB : Hid (Byt (tabP nx rs rs.length)) := tabP_byt nx rs hl _
        go_wp2_with fail
        refine (l2Seal_any _ (tabP nx rs rs.length) w1.heap.size _ hown (by omega) hl2 HB.out).mono ?_
        rintro e w3 ⟨u3, rfl, hR3, hb3⟩
        rw [← HE.out] at hR3
        have hB3 := hB1.trans ((hX.trans hb3).mono (by omega))
        go_wp2
        refine bodyPost_ret (v := .tuple #[u3, .int .i64 0]) (by simp [results, Tryz.results35, go_sem]) rfl ⟨_, rfl, hR3.lower (by omega), hB3⟩
end Go.Proofs.YtpjdhfbeofdplaaGreatDoor
