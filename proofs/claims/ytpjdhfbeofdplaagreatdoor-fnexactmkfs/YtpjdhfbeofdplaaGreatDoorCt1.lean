import Derived.Test.YtpjdhfbeofdplaaGreatDoorRn1
import Derived.Test.YtpjdhfbeofdplaaGreatDoorEr3
import Derived.Deep.RegionHeld3
namespace Go.Proofs.YtpjdhfbeofdplaaGreatDoor
open Go.RowKit

theorem infoRun' : (Tryz.prog.info? 57).map (fun i => (i.zero, i.size, i.bytes)) = some (some (.agg #[.int .i64 0, .int .i64 0, .int .i64 0]), 3, 24) := by kernel_rfl

/-- the first k runs laid, then noughts -/
def rnP (rs : List (Int × Int × Int)) (k : Nat) : List (Int × Int × Int) := rs.take k ++ List.replicate (rs.length - k) (0, 0, 0)
theorem rnP_length (rs : List (Int × Int × Int)) (k : Nat) (h : k ≤ rs.length) : (rnP rs k).length = rs.length := by simp [rnP]; omega
theorem rnP_zero (rs : List (Int × Int × Int)) : rnP rs 0 = List.replicate rs.length (0, 0, 0) := by simp [rnP]
theorem rnP_end (rs : List (Int × Int × Int)) : rnP rs rs.length = rs := by simp [rnP]
theorem rnP_step (rs : List (Int × Int × Int)) (k : Nat) (h : k < rs.length) : (rnP rs k).set k (rs.getD k (0, 0, 0)) = rnP rs (k + 1) := by
  unfold rnP
  have hl : (rs.take k).length = k := by simp; omega
  rw [List.set_append_right _ _ (by omega), hl, Nat.sub_self, show rs.length - k = (rs.length - (k + 1)) + 1 by omega, List.replicate_succ, List.set_cons_zero, List.take_succ_eq_append_getElem h]
  simp only [List.getD_eq_getElem?_getD, List.getElem?_eq_getElem h, Option.getD_some, List.append_assoc, List.cons_append, List.nil_append]

theorem madeRuns (n : Nat) (hn : n ≤ 1048576) (w : World) : ∃ cur, (Instr.makeSlice 58 (.int .i64 (n : Int)) (.int .i64 (n : Int))).run Tryz.prog w = .ok (.slice (some ⟨w.heap.size, 0, none⟩) n n) (w.alloc (.cells cur 57)) ∧
    ROwn w.heap.size (w.heap.size + 1) (w.alloc (.cells cur 57)) (.slice (some ⟨w.heap.size, 0, none⟩) n n) (List.replicate n (0, 0, 0)) := by
  obtain ⟨i, hi, hzz⟩ := Option.map_eq_some_iff.1 infoRun'
  simp only [Prod.mk.injEq] at hzz
  obtain ⟨hz, hs, hby⟩ := hzz
  have hr := run_make (P := Tryz.prog) w 58 57 i _ Tryz.underlying58 hi hz .i64 .i64 n n (by omega) (Int.le_refl _) (by rw [hby]; omega) (by omega)
  simp only [Int.toNat_natCast, hs] at hr
  refine ⟨_, hr, ?_⟩
  refine ⟨_, n, by simp, fun hp => ⟨w.heap.size, 0, rfl, Nat.le_refl _, Nat.lt_succ_self _, by simp, fun j => World.frozen?_alloc_at _ _ _ _ rfl, fun i hi => ?_⟩⟩
  simp only [List.length_replicate] at hi
  rw [Nat.zero_add, World.cell?_alloc_at _ _ _ _ rfl, World.cell?_alloc_at _ _ _ _ rfl, World.cell?_alloc_at _ _ _ _ rfl]
  have e : (List.replicate n ((0, 0, 0) : Int × Int × Int)).getD i (0, 0, 0) = (0, 0, 0) := by simp [hi]
  rw [e]
  have m0 : i * 3 < n * 3 := by omega
  have m1 : i * 3 + 1 < n * 3 := by omega
  have m2 : i * 3 + 2 < n * 3 := by omega
  have q1 : (i * 3 + 1) % 3 = 1 := by omega
  have q2 : (i * 3 + 2) % 3 = 2 := by omega
  simp [madeCells, Value.cells, m0, m1, m2, q1, q2]

end Go.Proofs.YtpjdhfbeofdplaaGreatDoor

namespace Go.Proofs.YtpjdhfbeofdplaaGreatDoor
open Go.RowKit

abbrev R3 := Int × Int × Int
/-- a run within its bounds -/
def inR (r : R3) : Prop := (2 ≤ r.1 ∧ r.1 ≤ 512) ∧ (1 ≤ r.2.1 ∧ r.2.1 ≤ 512) ∧ r.1 + r.2.1 ≤ 512 ∧ (1 ≤ r.2.2 ∧ r.2.2 ≤ 65535)
/-- r may follow p -/
def fol (p r : R3) : Prop := r.1 > p.1 + p.2.1 ∨ r.1 = p.1 + p.2.1 ∧ r.2.2 ≠ p.2.2
/-- the two, reckoned -/
def inRb (r : R3) : Bool := decide ((2 ≤ r.1 ∧ r.1 ≤ 512) ∧ (1 ≤ r.2.1 ∧ r.2.1 ≤ 512) ∧ r.1 + r.2.1 ≤ 512 ∧ (1 ≤ r.2.2 ∧ r.2.2 ≤ 65535))
def folb (p r : R3) : Bool := decide (r.1 > p.1 + p.2.1 ∨ r.1 = p.1 + p.2.1 ∧ r.2.2 ≠ p.2.2)
theorem inRb_t {r : R3} (h : inR r) : inRb r = true := decide_eq_true h
theorem inRb_f {r : R3} (h : ¬ inR r) : inRb r = false := decide_eq_false h
theorem folb_t {p r : R3} (h : fol p r) : folb p r = true := decide_eq_true h
theorem folb_f {p r : R3} (h : ¬ fol p r) : folb p r = false := decide_eq_false h
theorem inRb_of {r : R3} (h : inRb r = true) : inR r := by simpa [inRb, inR] using h
theorem folb_of {p r : R3} (h : folb p r = true) : fol p r := by simpa [folb, fol] using h

set_option maxHeartbeats 1000000 in
theorem inBounds_any (x y z : Int) (w : World) :
    Calls Tryz.prog 88 #[.agg #[.int .i64 x, .int .i64 y, .int .i64 z]] w fun e w' => e = .returned (.bool (inRb (x, y, z))) ∧ Below w.heap.size w w' := by
  have hB : Below w.heap.size w (w.alloc (.cells #[.int .i64 x, .int .i64 y, .int .i64 z] 57)) := (Below.refl _ _).alloc (Nat.le_refl _) _
  have HD : Hid (inRb (x, y, z) = decide ((2 ≤ x ∧ x ≤ 512) ∧ (1 ≤ y ∧ y ≤ 512) ∧ x + y ≤ 512 ∧ (1 ≤ z ∧ z ≤ 65535))) := rfl
  go_enter Tryz.func88, Tryz.ntmps88
  go_wp2_with fail
  refine (within_any _ _ _ _).mono ?_
  rintro e w1 ⟨rfl, rfl⟩
  by_cases h1 : 2 ≤ x ∧ x ≤ 512
  · rw [inB_true h1]
    go_wp2_with fail
    refine (within_any _ _ _ _).mono ?_
    rintro e w1 ⟨rfl, rfl⟩
    by_cases h2 : 1 ≤ y ∧ y ≤ 512
    · rw [inB_true h2]
      by_cases h3 : x + y ≤ 512
      · go_wp2_with fail
        refine (within_any _ _ _ _).mono ?_
        rintro e w1 ⟨rfl, rfl⟩
        by_cases h4 : 1 ≤ z ∧ z ≤ 65535
        · rw [inB_true h4]
          have HE : Hid (inRb (x, y, z) = true) := by rw [HD.out]; exact decide_eq_true ⟨h1, h2, h3, h4⟩
          go_wp2
          go_ret
          exact ⟨by rw [HE.out]; rfl, hB⟩
        · rw [inB_false h4]
          have HE : Hid (inRb (x, y, z) = false) := by rw [HD.out]; exact decide_eq_false fun h => h4 h.2.2.2
          go_wp2
          go_ret
          exact ⟨by rw [HE.out]; rfl, hB⟩
      · have HE : Hid (inRb (x, y, z) = false) := by rw [HD.out]; exact decide_eq_false fun h => h3 h.2.2.1
        go_wp2
        go_ret
        exact ⟨by rw [HE.out]; rfl, hB⟩
    · rw [inB_false h2]
      have HE : Hid (inRb (x, y, z) = false) := by rw [HD.out]; exact decide_eq_false fun h => h2 h.2.1
      go_wp2
      go_ret
      exact ⟨by rw [HE.out]; rfl, hB⟩
  · rw [inB_false h1]
    have HE : Hid (inRb (x, y, z) = false) := by rw [HD.out]; exact decide_eq_false fun h => h1 h.1
    go_wp2
    go_ret
    exact ⟨by rw [HE.out]; rfl, hB⟩

set_option maxHeartbeats 1000000 in
theorem mayFollow_any (x y z p q r : Int) (hp : 2 ≤ p ∧ p ≤ 512) (hq : 1 ≤ q ∧ q ≤ 512) (w : World) :
    Calls Tryz.prog 99 #[.agg #[.int .i64 x, .int .i64 y, .int .i64 z], .agg #[.int .i64 p, .int .i64 q, .int .i64 r]] w fun e w' => e = .returned (.bool (folb (p, q, r) (x, y, z))) ∧ Below w.heap.size w w' := by
  have hB : Below w.heap.size w ((w.alloc (.cells #[.int .i64 x, .int .i64 y, .int .i64 z] 57)).alloc (.cells #[.int .i64 p, .int .i64 q, .int .i64 r] 57)) := ((Below.refl _ _).alloc (Nat.le_refl _) _).alloc (by simp) _
  have HD : Hid (folb (p, q, r) (x, y, z) = decide (x > p + q ∨ x = p + q ∧ z ≠ r)) := rfl
  by_cases h1 : p + q < x
  · have HE : Hid (folb (p, q, r) (x, y, z) = true) := by rw [HD.out]; exact decide_eq_true (.inl h1)
    go_enter Tryz.func99, Tryz.ntmps99
    go_wp2
    go_ret
    exact ⟨by rw [HE.out]; rfl, hB⟩
  · by_cases h2 : x = p + q
    · by_cases h3 : z = r
      · have HE : Hid (folb (p, q, r) (x, y, z) = false) := by rw [HD.out]; exact decide_eq_false (by omega)
        have hb : (x == p + q) = true := by simpa using h2
        have hc : (z != r) = false := by simpa using h3
        clear h2 h3
        go_enter Tryz.func99, Tryz.ntmps99
        go_wp2
        go_ret
        exact ⟨by rw [HE.out]; rfl, hB⟩
      · have HE : Hid (folb (p, q, r) (x, y, z) = true) := by rw [HD.out]; exact decide_eq_true (.inr ⟨h2, h3⟩)
        have hb : (x == p + q) = true := by simpa using h2
        have hc : (z != r) = true := by simpa using h3
        clear h2 h3
        go_enter Tryz.func99, Tryz.ntmps99
        go_wp2
        go_ret
        exact ⟨by rw [HE.out]; rfl, hB⟩
    · have HE : Hid (folb (p, q, r) (x, y, z) = false) := by rw [HD.out]; exact decide_eq_false (by omega)
      have hb : (x == p + q) = false := by simpa using h2
      clear h2
      go_enter Tryz.func99, Tryz.ntmps99
      go_wp2
      go_ret
      exact ⟨by rw [HE.out]; rfl, hB⟩
end Go.Proofs.YtpjdhfbeofdplaaGreatDoor

namespace Go.Proofs.YtpjdhfbeofdplaaGreatDoor
open Go.RowKit

/-- the runs are in order -/
def okC (rs : List R3) : Prop := ∀ i, i < rs.length → inR (rs.getD i (0, 0, 0)) ∧ (0 < i → fol (rs.getD (i - 1) (0, 0, 0)) (rs.getD i (0, 0, 0)))

theorem belowA (w : World) (o : Obj) : Below w.heap.size w (w.alloc o) := (Below.refl _ _).alloc (Nat.le_refl _) _

theorem six_cells {w w1 w3 : World} {g b o : Nat} {x y z p q r : Value} (hX : w1.cell? ⟨g, 0, none⟩ = some x ∧ w1.cell? ⟨g, 1, none⟩ = some y ∧ w1.cell? ⟨g, 2, none⟩ = some z ∧ w1.cell? ⟨b, o, none⟩ = some p ∧ w1.cell? ⟨b, o + 1, none⟩ = some q ∧ w1.cell? ⟨b, o + 2, none⟩ = some r) (hw : w.heap = w1.heap) (h : Below w.heap.size w w3) :
    w3.cell? ⟨g, 0, none⟩ = some x ∧ w3.cell? ⟨g, 1, none⟩ = some y ∧ w3.cell? ⟨g, 2, none⟩ = some z ∧ w3.cell? ⟨b, o, none⟩ = some p ∧ w3.cell? ⟨b, o + 1, none⟩ = some q ∧ w3.cell? ⟨b, o + 2, none⟩ = some r := by
  obtain ⟨x0, x1, x2, g1, g2, g3⟩ := hX
  have e1 := World.block_lt_of_cell? _ _ x0
  have e2 := World.block_lt_of_cell? _ _ g1
  have k : ∀ (c d : Nat) (u : Value), c < w1.heap.size → w1.cell? ⟨c, d, none⟩ = some u → w3.cell? ⟨c, d, none⟩ = some u := fun c d u hc hu => (h.cell (p := ⟨c, d, none⟩) (by rw [hw]; exact hc)).trans ((World.cell?_of_block (a := ⟨c, d, none⟩) (by rw [hw])).trans hu)
  exact ⟨k _ _ _ e1 x0, k _ _ _ e1 x1, k _ _ _ e1 x2, k _ _ _ e2 g1, k _ _ _ e2 g2, k _ _ _ e2 g3⟩

set_option maxRecDepth 100000 in
set_option maxHeartbeats 2000000 in
theorem checkRuns_any {w : World} {adr : Nat → Addr} (hL : Laid w adr) (v : Value) (rs : List R3) (hv : RRead w v rs) (hn : rs.length ≤ 1048576) :
    Calls Tryz.prog 98 #[v] w fun e w' => Below w.heap.size w w' ∧ ((okC rs ∧ e = .returned .nilIface) ∨ (¬ okC rs ∧ ∃ u g, e = .returned u ∧ PErr w' adr u g ∧ cdOf g = 5)) := by
  obtain ⟨a, cap, rfl, hc⟩ := hv
  go_enter Tryz.func98, Tryz.ntmps98
  go_wp2
  go_loopw [8] (fun i wr => ∃ k : Nat, k ≤ rs.length ∧ i = .int .i64 k ∧ Below w.heap.size w wr ∧ ∀ j, j < k → inR (rs.getD j (0, 0, 0)) ∧ (0 < j → fol (rs.getD (j - 1) (0, 0, 0)) (rs.getD j (0, 0, 0)))) (fun i _ => rs.length - (intOf i).toNat)
  case atStart => exact ⟨0, Nat.zero_le _, rfl, Below.refl _ _, fun j hj => by omega⟩
  case round =>
    obtain ⟨k, hk, rfl, hb, hall⟩ := hrel
    by_cases hlt : k < rs.length
    · obtain ⟨b, off, rfl, hcell⟩ := hc (by omega)
      obtain ⟨g1, g2, g3⟩ := hcell k hlt
      have hbw : b < w.heap.size := World.block_lt_of_cell? _ _ g1
      rw [← hb.cell (p := ⟨b, off + k * 3, none⟩) hbw] at g1
      rw [← hb.cell (p := ⟨b, off + k * 3 + 1, none⟩) hbw] at g2
      rw [← hb.cell (p := ⟨b, off + k * 3 + 2, none⟩) hbw] at g3
      have hi : (k : Int) < (rs.length : Int) := by omega
      have HC : Hid (∀ j, j < rs.length → w.cell? ⟨b, off + j * 3, none⟩ = some (.int .i64 (rs.getD j (0, 0, 0)).1) ∧ w.cell? ⟨b, off + j * 3 + 1, none⟩ = some (.int .i64 (rs.getD j (0, 0, 0)).2.1) ∧ w.cell? ⟨b, off + j * 3 + 2, none⟩ = some (.int .i64 (rs.getD j (0, 0, 0)).2.2)) := hcell
      obtain ⟨p, HP⟩ : ∃ p, Hid (rs.getD k (0, 0, 0) = p) := ⟨_, rfl⟩
      rw [HP.out] at g1 g2 g3
      obtain ⟨x, y, z⟩ := p
      simp only at g1 g2 g3
      have hL1 := hL.below hb
      have c0 := hL1.var 4 (by decide)
      have c1 := hL1.var 6 (by decide)
      clear hc hcell
      go_wp2_with fail
      have hbA := belowA wr (.cells #[.int .i64 x, .int .i64 y, .int .i64 z] 57)
      refine (inBounds_any x y z _).mono ?_
      rintro e w1 ⟨rfl, hb1⟩
      have hbx := hbA.trans (hb1.mono hbA.size)
      have hb2 := hb.trans (hbx.mono hb.size)
      have x0 : w1.cell? ⟨wr.heap.size, 0, none⟩ = some (.int .i64 x) := (hb1.cell (p := ⟨wr.heap.size, 0, none⟩) (by simp)).trans (World.cell?_alloc_at _ _ _ _ rfl)
      have x1 : w1.cell? ⟨wr.heap.size, 1, none⟩ = some (.int .i64 y) := (hb1.cell (p := ⟨wr.heap.size, 1, none⟩) (by simp)).trans (World.cell?_alloc_at _ _ _ _ rfl)
      have x2 : w1.cell? ⟨wr.heap.size, 2, none⟩ = some (.int .i64 z) := (hb1.cell (p := ⟨wr.heap.size, 2, none⟩) (by simp)).trans (World.cell?_alloc_at _ _ _ _ rfl)
      have hL2 := hL.below hb2
      have d0 := hL2.var 4 (by decide)
      have d1 := hL2.var 6 (by decide)
      have hs1 := hbx.size
      clear hL1 c0 c1 g1 g2 g3 hbA hb1
      by_cases hin : inR (x, y, z)
      · rw [inRb_t hin]
        by_cases hk0 : 0 < k
        · have hprev := (hall (k - 1) (by omega)).1
          obtain ⟨g1, g2, g3⟩ := HC.out (k - 1) (by omega)
          rw [← hb2.cell (p := ⟨b, off + (k - 1) * 3, none⟩) hbw] at g1
          rw [← hb2.cell (p := ⟨b, off + (k - 1) * 3 + 1, none⟩) hbw] at g2
          rw [← hb2.cell (p := ⟨b, off + (k - 1) * 3 + 2, none⟩) hbw] at g3
          obtain ⟨pp, HQ⟩ : ∃ p, Hid (rs.getD (k - 1) (0, 0, 0) = p) := ⟨_, rfl⟩
          rw [HQ.out] at g1 g2 g3 hprev
          obtain ⟨p, q, r⟩ := pp
          simp only at g1 g2 g3
          have hw1 : IntKind.i64.wrap ((k : Int) - 1) = ((k - 1 : Nat) : Int) := (IntWalk.i64_in _ ⟨by omega, by omega⟩).trans (by omega)
          have hi1 : ((k - 1 : Nat) : Int) < (rs.length : Int) := by omega
          have hki : (0 : Int) < (k : Int) := by omega
          have hp1 := hprev.1
          have hp2 := hprev.2.1
          simp only at hp1 hp2
          generalize hk1 : k - 1 = k1 at *
          have HX : Hid (w1.cell? ⟨wr.heap.size, 0, none⟩ = some (.int .i64 x) ∧ w1.cell? ⟨wr.heap.size, 1, none⟩ = some (.int .i64 y) ∧ w1.cell? ⟨wr.heap.size, 2, none⟩ = some (.int .i64 z) ∧ w1.cell? ⟨b, off + k1 * 3, none⟩ = some (.int .i64 p) ∧ w1.cell? ⟨b, off + k1 * 3 + 1, none⟩ = some (.int .i64 q) ∧ w1.cell? ⟨b, off + k1 * 3 + 2, none⟩ = some (.int .i64 r)) := ⟨x0, x1, x2, g1, g2, g3⟩
          clear hprev
          go_wp2_with fail
          go_region_held3 (fun w' => w'.cell? ⟨wr.heap.size, 0, none⟩ = some (.int .i64 x) ∧ w'.cell? ⟨wr.heap.size, 1, none⟩ = some (.int .i64 y) ∧ w'.cell? ⟨wr.heap.size, 2, none⟩ = some (.int .i64 z) ∧ w'.cell? ⟨b, off + k1 * 3, none⟩ = some (.int .i64 p) ∧ w'.cell? ⟨b, off + k1 * 3 + 1, none⟩ = some (.int .i64 q) ∧ w'.cell? ⟨b, off + k1 * 3 + 2, none⟩ = some (.int .i64 r)) (first | go_keep | assumption)
            ((go_at_call 99; refine (mayFollow_any x y z p q r (by omega) (by omega) _).mono ?_; rintro e w3 ⟨rfl, hb3⟩; have hXX := six_cells (w := w1.drew) HX.out rfl hb3))
          have hb4 : Below w.heap.size w w3 := hb2.drew.trans (hb3.mono hb2.size)
          have HIN : Hid (inR (x, y, z)) := hin
          clear hXX HX x0 x1 x2 g1 g2 g3 hb3 hin
          by_cases hf : fol (p, q, r) (x, y, z)
          · rw [folb_t hf]
            have HF : Hid (∀ j, j < k + 1 → inR (rs.getD j (0, 0, 0)) ∧ (0 < j → fol (rs.getD (j - 1) (0, 0, 0)) (rs.getD j (0, 0, 0)))) := fun j hj => by
              by_cases e : j = k
              · subst e
                rw [HP.out]
                exact ⟨HIN.out, fun _ => by rw [hk1, HQ.out]; exact hf⟩
              · exact hall j (by omega)
            clear hall hf
            go_wp2
            go_roundw
            case rel => exact ⟨k + 1, by omega, by go_num, hb4, HF.out⟩
            case measure => simp [intOf]; omega
          · rw [folb_f hf]
            have hno : ¬ okC rs := fun h => hf (by have := (h k hlt).2 hk0; rw [hk1, HP.out, HQ.out] at this; exact this)
            have hL3 := hL.below hb4
            have d2 := hL3.var 6 (by decide)
            have HE : Hid (∀ pl : Value, PErr (w3.alloc (.cells #[pl, .iface 166 (.pointer (some (adr 6)))] 129)) adr (.iface 127 (.pointer (some ⟨w3.heap.size, 0, none⟩))) 6) := fun pl => ⟨by decide, w3.heap.size, 0, rfl, World.cell?_alloc_at _ _ _ _ rfl⟩
            have hbE := fun o => hb4.trans ((belowA w3 o).mono hb4.size)
            clear hall hf d0 d1
            go_wp2
            go_ret
            exact ⟨hbE _, .inr ⟨hno, _, _, rfl, HE.out _, rfl⟩⟩
        · have hki : ¬ (0 : Int) < (k : Int) := by omega
          have HF : Hid (∀ j, j < k + 1 → inR (rs.getD j (0, 0, 0)) ∧ (0 < j → fol (rs.getD (j - 1) (0, 0, 0)) (rs.getD j (0, 0, 0)))) := fun j hj => by
            obtain rfl : j = k := by omega
            rw [HP.out]
            exact ⟨hin, fun h => by omega⟩
          clear hall hin
          go_wp2
          go_quiet (fail)
          go_wp2
          go_roundw
          case rel => exact ⟨k + 1, by omega, by go_num, below_drewN hb2 _, HF.out⟩
          case measure => simp [intOf]; omega
      · rw [inRb_f hin]
        have hno : ¬ okC rs := fun h => hin (by have := (h k hlt).1; rw [HP.out] at this; exact this)
        have HE : Hid (∀ pl : Value, PErr (w1.alloc (.cells #[pl, .iface 166 (.pointer (some (adr 4)))] 129)) adr (.iface 127 (.pointer (some ⟨w1.heap.size, 0, none⟩))) 4) := fun pl => ⟨by decide, w1.heap.size, 0, rfl, World.cell?_alloc_at _ _ _ _ rfl⟩
        have hbE := fun o => hb2.trans ((belowA w1 o).mono hb2.size)
        clear hall x0 x1 x2
        go_wp2
        go_ret
        exact ⟨hbE _, .inr ⟨hno, _, _, rfl, HE.out _, rfl⟩⟩
    · have hok : okC rs := fun i hi => hall i (by omega)
      clear hall hc
      go_wp2
      go_ret
      exact ⟨hb, .inl ⟨hok, rfl⟩⟩
end Go.Proofs.YtpjdhfbeofdplaaGreatDoor
