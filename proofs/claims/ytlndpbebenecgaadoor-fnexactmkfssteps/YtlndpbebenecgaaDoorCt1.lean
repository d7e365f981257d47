import Derived.Test.YtlndpbebenecgaaDoorRn2
namespace Go.Proofs.YtlndpbebenecgaaDoor
open Go.RowKit

theorem infoRun' : (Tryd.prog.info? 83).map (fun i => (i.zero, i.size, i.bytes)) = some (some (.agg #[.int .i64 0, .int .i64 0, .int .i64 0]), 3, 24) := by kernel_rfl

set_option maxHeartbeats 400000 in
theorem toRun_any (x y z : Int) (w : World) :
    Calls Tryd.prog 80 #[.agg #[.int .i64 x, .int .i64 y, .int .i64 z]] w fun e w' => e = .returned (.agg #[.int .i64 x, .int .i64 y, .int .i64 z]) ∧ Below w.heap.size w w' := by
  have hB := fun o1 o2 o3 => (((Below.refl w.heap.size w).alloc (Nat.le_refl _) o1).alloc (by simp) o2).alloc (by simp; omega) o3
  go_enter Tryd.func80, Tryd.ntmps80
  go_wp2
  refine bodyPost_ret (v := .agg #[.int .i64 x, .int .i64 y, .int .i64 z]) (by simp [results, Tryd.results80, go_sem]) rfl ⟨rfl, ?_⟩
  exact hB _ _ _

/-- the first k runs laid, then noughts -/
def rnP (rs : List (Int × Int × Int)) (k : Nat) : List (Int × Int × Int) := rs.take k ++ List.replicate (rs.length - k) (0, 0, 0)
theorem rnP_length (rs : List (Int × Int × Int)) (k : Nat) (h : k ≤ rs.length) : (rnP rs k).length = rs.length := by simp [rnP]; omega
theorem rnP_zero (rs : List (Int × Int × Int)) : rnP rs 0 = List.replicate rs.length (0, 0, 0) := by simp [rnP]
theorem rnP_end (rs : List (Int × Int × Int)) : rnP rs rs.length = rs := by simp [rnP]
theorem rnP_step (rs : List (Int × Int × Int)) (k : Nat) (h : k < rs.length) : (rnP rs k).set k (rs.getD k (0, 0, 0)) = rnP rs (k + 1) := by
  unfold rnP
  have hl : (rs.take k).length = k := by simp; omega
  rw [List.set_append_right _ _ (by omega), hl, Nat.sub_self, show rs.length - k = (rs.length - (k + 1)) + 1 by omega, List.replicate_succ, List.set_cons_zero, List.take_succ_eq_append_getElem h]
  simp only [List.getD_eq_getElem?_getD, List.getElem?_eq_getElem h, Option.getD_some, List.append_assoc, List.cons_append, List.nil_append]

theorem madeRuns (n : Nat) (hn : n ≤ 1048576) (w : World) : ∃ cur, (Instr.makeSlice 35 (.int .i64 (n : Int)) (.int .i64 (n : Int))).run Tryd.prog w = .ok (.slice (some ⟨w.heap.size, 0, none⟩) n n) (w.alloc (.cells cur 83)) ∧
    ROwn w.heap.size (w.heap.size + 1) (w.alloc (.cells cur 83)) (.slice (some ⟨w.heap.size, 0, none⟩) n n) (List.replicate n (0, 0, 0)) := by
  obtain ⟨i, hi, hzz⟩ := Option.map_eq_some_iff.1 infoRun'
  simp only [Prod.mk.injEq] at hzz
  obtain ⟨hz, hs, hby⟩ := hzz
  have hr := run_make (P := Tryd.prog) w 35 83 i _ Tryd.underlying35 hi hz .i64 .i64 n n (by omega) (Int.le_refl _) (by rw [hby]; omega) (by omega)
  simp only [Int.toNat_natCast, hs] at hr
  refine ⟨_, hr, ?_⟩
  refine ⟨_, n, by simp, fun hp => ⟨w.heap.size, 0, rfl, Nat.le_refl _, Nat.lt_succ_self _, by simp, fun j => World.frozen?_alloc_at _ _ _ _ rfl, fun i hi => ?_⟩⟩
  simp only [List.length_replicate] at hi
  rw [Nat.zero_add, World.cell?_alloc_at _ _ _ _ rfl, World.cell?_alloc_at _ _ _ _ rfl, World.cell?_alloc_at _ _ _ _ rfl]
  have e : (List.replicate n ((0, 0, 0) : Int × Int × Int)).getD i (0, 0, 0) = (0, 0, 0) := by simp [hi]
  rw [e]
  have m0 : i * 3 < n * 3 := by omega
  have m1 : i * 3 + 1 < n * 3 := by omega
  have m2 : i * 3 + 2 < n * 3 := by omega
  have q1 : (i * 3 + 1) % 3 = 1 := by omega
  have q2 : (i * 3 + 2) % 3 = 2 := by omega
  simp [madeCells, Value.cells, m0, m1, m2, q1, q2]

set_option maxHeartbeats 1000000 in
theorem toRunS_own (v : Value) (rs : List (Int × Int × Int)) (w : World) (hv : RRead w v rs) (hn : rs.length ≤ 1048576) :
    Calls Tryd.prog 50 #[v] w fun e w' => e = .returned (.slice (some ⟨w.heap.size, 0, none⟩) rs.length rs.length) ∧ ROwn w.heap.size w'.heap.size w' (.slice (some ⟨w.heap.size, 0, none⟩) rs.length rs.length) rs ∧ Below w.heap.size w w' := by
  obtain ⟨a, cap, rfl, hc⟩ := hv
  obtain ⟨cur, hmk, hO⟩ := madeRuns rs.length hn w
  rw [← rnP_zero] at hO
  have hB0 : Below w.heap.size w (w.alloc (.cells cur 83)) := (Below.refl _ _).alloc (Nat.le_refl _) _
  have hs0 : w.heap.size + 1 ≤ (w.alloc (.cells cur 83)).heap.size := by simp
  by_cases hz : 0 < rs.length
  · obtain ⟨b, off, rfl, hcell⟩ := hc hz
    have hbw : b < w.heap.size := World.block_lt_of_cell? _ _ (hcell 0 hz).1
    clear hc
    go_enter Tryd.func50, Tryd.ntmps50
    go_wp2
    go_loopw [4] (fun i wr => ∃ k : Nat, k ≤ rs.length ∧ i = .int .i64 k ∧ ROwn w.heap.size (w.heap.size + 1) wr (.slice (some ⟨w.heap.size, 0, none⟩) rs.length rs.length) (rnP rs k) ∧ Below w.heap.size w wr ∧ w.heap.size + 1 ≤ wr.heap.size) (fun i _ => rs.length - (intOf i).toNat)
    case atStart => exact ⟨0, Nat.zero_le _, rfl, hO, hB0, hs0⟩
    case round =>
      obtain ⟨k, hk, rfl, ho, hb, hsz⟩ := hrel
      clear hmk hO hB0 hs0
      by_cases hlt : k < rs.length
      · obtain ⟨g1, g2, g3⟩ := hcell k hlt
        rw [← hb.cell (p := ⟨b, off + k * 3, none⟩) hbw] at g1
        rw [← hb.cell (p := ⟨b, off + k * 3 + 1, none⟩) hbw] at g2
        rw [← hb.cell (p := ⟨b, off + k * 3 + 2, none⟩) hbw] at g3
        have HT : Hid ((rnP rs k).set k (rs.getD k (0, 0, 0)) = rnP rs (k + 1)) := rnP_step rs k hlt
        have hi : (k : Int) < (rs.length : Int) := by omega
        clear hcell
        generalize rs.getD k (0, 0, 0) = p at g1 g2 g3 HT
        obtain ⟨x, y, z⟩ := p
        simp only at g1 g2 g3
        go_wp2_with fail
        refine (toRun_any x y z _).mono ?_
        rintro e w1 ⟨rfl, hb1⟩
        have ho1 := ho.below hb1
        obtain ⟨s1, s2⟩ := ho1.stored k hlt x y z
        rw [HT.out, Nat.zero_add] at s1
        rw [Nat.zero_add] at s2
        obtain ⟨_, _, he, hs⟩ := ho1
        simp only [Value.slice.injEq] at he
        obtain ⟨rfl, hbad, rfl⟩ := he
        have hpl := rnP_length rs k hk
        clear hbad
        obtain ⟨_, _, he, _, _, _, hfr, hcc⟩ := hs (by omega)
        simp only [Option.some.injEq, Addr.mk.injEq, and_true] at he
        obtain ⟨rfl, rfl⟩ := he
        obtain ⟨c0, c1, c2⟩ := hcc k (by omega)
        rw [Nat.zero_add] at c0 c1 c2
        have f0 := hfr (k * 3)
        have f1 := hfr (k * 3 + 1)
        have f2 := hfr (k * 3 + 2)
        have HS1 : Hid _ := s1
        have hbN := (hb.trans (hb1.mono hb.size)).trans (s2.below (Nat.le_refl _) (by have := hb1.size; omega))
        have hsN := s2.size
        have hs1 := hb1.size
        generalize (rnP rs k).getD k (0, 0, 0) = cp at *
        clear ho hs hcc hfr hpl s1 s2 g1 g2 g3 hb1 hb
        go_wp2
        go_roundw
        case rel => exact ⟨k + 1, by omega, by go_num, HS1.out, hbN, by omega⟩
        case measure => simp [intOf]; omega
      · have hke : k = rs.length := by omega
        subst hke
        rw [rnP_end] at ho
        have hO2 := ho.wider (lo' := w.heap.size) (hi' := wr.heap.size) (Nat.le_refl _) hsz
        clear hcell ho
        go_wp2
        go_ret
        exact ⟨rfl, hO2, hb⟩
  · have hz0 : rs = [] := List.eq_nil_of_length_eq_zero (by omega)
    subst hz0
    have hmk0 : (Instr.makeSlice 35 (.int .i64 0) (.int .i64 0)).run Tryd.prog w = .ok (.slice (some ⟨w.heap.size, 0, none⟩) 0 0) (w.alloc (.cells cur 83)) := hmk
    clear hc hmk hO
    go_enter Tryd.func50, Tryd.ntmps50
    go_wp2
    go_loopw [4] (fun i wr => i = .int .i64 0 ∧ wr = w.alloc (.cells cur 83)) (fun _ _ => 0)
    case atStart => exact ⟨rfl, rfl⟩
    case round =>
      obtain ⟨rfl, rfl⟩ := hrel
      clear hmk0
      go_wp2
      go_ret
      exact ⟨rfl, ROwn.empty _ _ _ _ _, hB0⟩
end Go.Proofs.YtlndpbebenecgaaDoor
