import Derived.Test.YtamblkibmlfklabDoorCt4
namespace Go.Proofs.YtamblkibmlfklabDoor
open Go.RowKit

def cmpI (x y : Int) : Int := if x < y then -1 else if x > y then 1 else 0

set_option maxHeartbeats 400000 in
theorem isNaN_any (x : Int) (w : World) : Calls Tryd.prog 53 #[.int .i64 x] w fun e w' => e = .returned (.bool false) ∧ w = w' := by
  have h : (x != x) = false := by simp
  go_enter Tryd.func53, Tryd.ntmps53
  go_wp2
  go_ret
  exact ⟨rfl, rfl⟩

set_option maxHeartbeats 400000 in
theorem compare_any (x y : Int) (w : World) : Calls Tryd.prog 50 #[.int .i64 x, .int .i64 y] w fun e w' => e = .returned (.int .i64 (cmpI x y)) ∧ w = w' := by
  have HC : Hid (cmpI x y = if x < y then -1 else if x > y then 1 else 0) := rfl
  go_enter Tryd.func50, Tryd.ntmps50
  go_wp2_with fail
  refine (isNaN_any _ _).mono ?_
  rintro e w1 ⟨rfl, rfl⟩
  go_wp2_with fail
  refine (isNaN_any _ _).mono ?_
  rintro e w1 ⟨rfl, rfl⟩
  by_cases h1 : x < y
  · have HE : Hid (cmpI x y = -1) := by rw [HC.out, if_pos h1]; rfl
    go_wp2
    go_ret
    exact ⟨by rw [HE.out]; rfl, rfl⟩
  · by_cases h2 : y < x
    · have HE : Hid (cmpI x y = 1) := by rw [HC.out, if_neg h1, if_pos h2]; rfl
      go_wp2
      go_ret
      exact ⟨by rw [HE.out]; rfl, rfl⟩
    · have HE : Hid (cmpI x y = 0) := by rw [HC.out, if_neg h1, if_neg h2]; rfl
      go_wp2
      go_ret
      exact ⟨by rw [HE.out]; rfl, rfl⟩

set_option maxHeartbeats 400000 in
theorem sortKey_any (x y z : Int) (w : World) : Calls Tryd.prog 71 #[.agg #[.int .i64 x, .int .i64 y, .int .i64 z]] w fun e w' => e = .returned (.int .i64 x) ∧ Below w.heap.size w w' := by
  have hB := belowA w (.cells #[.int .i64 x, .int .i64 y, .int .i64 z] 58)
  go_enter Tryd.func71, Tryd.ntmps71
  go_wp2
  go_ret
  exact ⟨rfl, hB⟩

theorem methodSortKey (v : Value) (w : World) : (Go.method 248 58 v "loop.example/s01595/impl.sortKey").run Tryd.prog w = .ok (71, v) w := by kernel_rfl

set_option maxRecDepth 100000 in
set_option maxHeartbeats 400000 in
theorem placeFn_any (x y z k : Int) (w : World) : Calls Tryd.prog 49 #[.agg #[.int .i64 x, .int .i64 y, .int .i64 z], .int .i64 k] w fun e w' => e = .returned (.int .i64 (cmpI x k)) ∧ Below w.heap.size w w' := by
  have hB := belowA w (.cells #[.int .i64 x, .int .i64 y, .int .i64 z] 58)
  have mS := methodSortKey
  go_enter Tryd.func49, Tryd.ntmps49
  go_wp2_with fail
  refine (sortKey_any x y z _).mono ?_
  rintro e w1 ⟨rfl, hb1⟩
  have hB1 := hB.trans (hb1.mono hB.size)
  clear hb1
  go_wp2_with fail
  refine (compare_any _ _ _).mono ?_
  rintro e w2 ⟨rfl, rfl⟩
  go_wp2
  go_ret
  exact ⟨rfl, hB1⟩

/-- starts rise -/
def Mono (rs : List R3) : Prop := ∀ i j, i ≤ j → j < rs.length → (rs.getD i (0, 0, 0)).1 ≤ (rs.getD j (0, 0, 0)).1

/-- what the search answers -/
def Srch (rs : List R3) (key : Int) (e : Ending) : Prop := ∃ i : Nat, ∃ b, e = .returned (.tuple #[.int .i64 i, .bool b]) ∧ i ≤ rs.length ∧ (∀ a, a < i → (rs.getD a (0, 0, 0)).1 < key) ∧ ∀ a, i ≤ a → a < rs.length → key ≤ (rs.getD a (0, 0, 0)).1

set_option maxRecDepth 100000 in
set_option maxHeartbeats 2000000 in
theorem search_any (v : Value) (rs : List R3) (key : Int) (w : World) (hv : RRead w v rs) (hn : rs.length ≤ 1048576) (hm : Mono rs) :
    Calls Tryd.prog 48 #[v, .int .i64 key, .func (.func 49) #[] #[]] w fun e w' => Below w.heap.size w w' ∧ Srch rs key e := by
  obtain ⟨a, cap, rfl, hc⟩ := hv
  go_enter Tryd.func48, Tryd.ntmps48
  go_wp2
  go_loopw [9, 10] (fun u v wr => ∃ i j : Nat, i ≤ j ∧ j ≤ rs.length ∧ u = .int .i64 i ∧ v = .int .i64 j ∧ Below w.heap.size w wr ∧ (∀ a, a < i → (rs.getD a (0, 0, 0)).1 < key) ∧ ∀ a, j ≤ a → a < rs.length → key ≤ (rs.getD a (0, 0, 0)).1) (fun u v _ => (intOf v).toNat - (intOf u).toNat)
  case atStart => exact ⟨0, rs.length, Nat.zero_le _, Nat.le_refl _, rfl, rfl, Below.refl _ _, fun a ha => by omega, fun a h1 h2 => by omega⟩
  case round =>
    obtain ⟨i, j, hij, hj, rfl, rfl, hb, hlo, hhi⟩ := hrel
    by_cases hlt : i < j
    · obtain ⟨b, off, rfl, hcell⟩ := hc (by omega)
      have hh1 : i ≤ (i + j) / 2 ∧ (i + j) / 2 < j := by omega
      obtain ⟨g1, g2, g3⟩ := hcell ((i + j) / 2) (by omega)
      have hbw : b < w.heap.size := World.block_lt_of_cell? _ _ g1
      rw [← hb.cell (p := ⟨b, off + (i + j) / 2 * 3, none⟩) hbw] at g1
      rw [← hb.cell (p := ⟨b, off + (i + j) / 2 * 3 + 1, none⟩) hbw] at g2
      rw [← hb.cell (p := ⟨b, off + (i + j) / 2 * 3 + 2, none⟩) hbw] at g3
      have hlt' : (i : Int) < (j : Int) := by omega
      obtain ⟨p, HP⟩ : ∃ p, Hid (rs.getD ((i + j) / 2) (0, 0, 0) = p) := ⟨_, rfl⟩
      rw [HP.out] at g1 g2 g3
      obtain ⟨x, y, z⟩ := p
      simp only at g1 g2 g3
      have HLO : Hid (∀ a, a < i → (rs.getD a (0, 0, 0)).1 < key) := hlo
      have HHI : Hid (∀ a, j ≤ a → a < rs.length → key ≤ (rs.getD a (0, 0, 0)).1) := hhi
      clear hc hcell hlo hhi
      go_wp2_with fail
      refine (placeFn_any x y z key _).mono ?_
      rintro e w1 ⟨rfl, hb1⟩
      have hb2 := hb.trans (hb1.mono hb.size)
      have HC : Hid (cmpI x key = if x < key then -1 else if x > key then 1 else 0) := rfl
      clear g1 g2 g3 hb1 hb
      by_cases hx : x < key
      · rw [HC.out, if_pos hx]
        have HL2 : Hid (∀ a, a < (i + j) / 2 + 1 → (rs.getD a (0, 0, 0)).1 < key) := fun a ha => by
          have := hm a ((i + j) / 2) (by omega) (by omega)
          rw [HP.out] at this
          simp only at this
          omega
        go_wp2
        go_roundw
        case rel => exact ⟨(i + j) / 2 + 1, j, by omega, hj, by go_num, rfl, hb2, HL2.out, HHI.out⟩
        case measure => simp [intOf]; omega
      · have hcn : ¬ cmpI x key < 0 := by rw [HC.out, if_neg hx]; split <;> omega
        have HH2 : Hid (∀ a, (i + j) / 2 ≤ a → a < rs.length → key ≤ (rs.getD a (0, 0, 0)).1) := fun a h1 h2 => by
          have := hm ((i + j) / 2) a h1 h2
          rw [HP.out] at this
          simp only at this
          omega
        generalize cmpI x key = cv at *
        clear hx
        go_wp2
        go_roundw
        case rel => exact ⟨i, (i + j) / 2, by omega, by omega, rfl, by go_num, hb2, HLO.out, HH2.out⟩
        case measure => simp [intOf]; omega
    · have hije : i = j := by omega
      subst hije
      have HLO : Hid (∀ a, a < i → (rs.getD a (0, 0, 0)).1 < key) := hlo
      have HHI : Hid (∀ a, i ≤ a → a < rs.length → key ≤ (rs.getD a (0, 0, 0)).1) := hhi
      clear hlo hhi
      by_cases hin : i < rs.length
      · obtain ⟨b, off, rfl, hcell⟩ := hc (by omega)
        obtain ⟨g1, g2, g3⟩ := hcell i hin
        have hbw : b < w.heap.size := World.block_lt_of_cell? _ _ g1
        rw [← hb.cell (p := ⟨b, off + i * 3, none⟩) hbw] at g1
        rw [← hb.cell (p := ⟨b, off + i * 3 + 1, none⟩) hbw] at g2
        rw [← hb.cell (p := ⟨b, off + i * 3 + 2, none⟩) hbw] at g3
        have hin' : (i : Int) < (rs.length : Int) := by omega
        generalize rs.getD i (0, 0, 0) = p at g1 g2 g3
        obtain ⟨x, y, z⟩ := p
        simp only at g1 g2 g3
        clear hc hcell
        go_wp2_with fail
        refine (placeFn_any x y z key _).mono ?_
        rintro e w1 ⟨rfl, hb1⟩
        have hb2 := hb.trans (hb1.mono hb.size)
        generalize cmpI x key = cv at *
        clear g1 g2 g3 hb1 hb
        go_wp2
        exact bodyPost_ret (v := .tuple #[.int .i64 i, .bool (cv == 0)]) (by simp [results, Tryd.results48, go_sem]) rfl ⟨hb2, i, _, rfl, hj, HLO.out, HHI.out⟩
      · clear hc
        have hin' : ¬ (i : Int) < (rs.length : Int) := by omega
        go_wp2
        exact bodyPost_ret (v := .tuple #[.int .i64 i, .bool false]) (by simp [results, Tryd.results48, go_sem]) rfl ⟨hb, i, _, rfl, hj, HLO.out, HHI.out⟩

set_option maxHeartbeats 400000 in
theorem placeOf_any (v : Value) (rs : List R3) (key : Int) (w : World) (hv : RRead w v rs) (hn : rs.length ≤ 1048576) (hm : Mono rs) :
    Calls Tryd.prog 40 #[v, .int .i64 key] w fun e w' => Below w.heap.size w w' ∧ Srch rs key e := by
  obtain ⟨a, cap, hve, hc⟩ := id hv
  subst hve
  have hmf : ∀ (fn : Fn) (first cap : Array Value) (w : World), (Instr.makeFunc fn first cap).run Tryd.prog w = .ok (.func fn first cap) w := fun _ _ _ _ => rfl
  clear hc
  go_enter Tryd.func40, Tryd.ntmps40
  go_wp2_with fail
  refine (search_any _ rs key _ hv hn hm).mono ?_
  rintro e w1 ⟨hb1, i, b, rfl, h1, h2, h3⟩
  have HS : Hid (Srch rs key (.returned (.tuple #[.int .i64 i, .bool b]))) := ⟨i, b, rfl, h1, h2, h3⟩
  clear h1 h2 h3
  go_wp2
  exact bodyPost_ret (v := .tuple #[.int .i64 i, .bool b]) (by simp [results, Tryd.results40, go_sem]) rfl ⟨hb1, HS.out⟩
end Go.Proofs.YtamblkibmlfklabDoor
