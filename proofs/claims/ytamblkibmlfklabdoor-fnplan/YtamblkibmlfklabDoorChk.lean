import Derived.Test.YtamblkibmlfklabDoorNums
namespace Go.Proofs.YtamblkibmlfklabDoor
open Go.RowKit

/-- v reads in w as the lists zss -/
def LRd (w : World) (v : Value) (zss : List (List Int)) : Prop :=
  ∃ b off cap, v = .slice (some ⟨b, off, none⟩) zss.length cap ∧ ∀ i, i < zss.length → ∃ a c, w.cell? ⟨b, off + i, none⟩ = some (.slice a (zss.getD i []).length c) ∧ Nts w (.slice a (zss.getD i []).length c) (zss.getD i [])

def badLen (n : Nat) (zs : List Int) : Bool := !(inB zs.length 8 512) || (zs.length : Int) != (n : Int)
def badNum (zs : List Int) : Bool := zs.any fun z => !(inB z 0 65535)
def badHd (zs : List Int) : Bool := zs.getD 0 0 != 0 || zs.getD 1 0 != 0
/-- the code for count lists -/
def chk (zss : List (List Int)) : Int := if zss.any (badLen (zss.getD 0 []).length) then 1 else if zss.any badNum then 2 else if zss.any badHd then 5 else 0

theorem any_at {α : Type} {p : α → Bool} {l : List α} {d : α} {i : Nat} (hi : i < l.length) (h : p (l.getD i d) = true) : l.any p = true := by
  refine List.any_eq_true.2 ⟨l.getD i d, ?_, h⟩
  simp [hi]
theorem any_no {α : Type} {p : α → Bool} {l : List α} (d : α) (h : ∀ i, i < l.length → p (l.getD i d) = false) : l.any p = false := by
  rw [List.any_eq_false]
  intro x hx
  obtain ⟨i, hi, rfl⟩ := List.mem_iff_getElem.1 hx
  have := h i hi
  simpa [hi] using this

set_option maxHeartbeats 2000000 in
theorem checkCounts_any (v : Value) (zss : List (List Int)) (w : World) (hv : LRd w v zss) (h0 : 0 < zss.length) (hn : zss.length ≤ 1048576) (hl : ∀ i, (zss.getD i []).length ≤ 1048576) :
    Calls Tryd.prog 18 #[v] w fun e w' => e = .returned (.int .i64 (chk zss)) ∧ w = w' := by
  obtain ⟨b, off, cap, rfl, hcell⟩ := hv
  obtain ⟨a0, c0, e0, n0⟩ := hcell 0 h0
  rw [Nat.add_zero] at e0
  obtain ⟨z0, HZ⟩ : ∃ z0, Hid (zss.getD 0 [] = z0) := ⟨_, rfl⟩
  rw [HZ.out] at e0
  have hl0 : z0.length ≤ 1048576 := by rw [← HZ.out]; exact hl 0
  go_enter Tryd.func18, Tryd.ntmps18
  go_wp2
  go_loop [13] (fun i => ∃ k : Nat, k ≤ zss.length ∧ i = .int .i64 k ∧ ∀ j, j < k → badLen z0.length (zss.getD j []) = false) (fun i => zss.length - (intOf i).toNat)
  case atStart => exact ⟨0, Nat.zero_le _, rfl, fun j hj => by omega⟩
  case round =>
    obtain ⟨k, hk, rfl, hall⟩ := hrel
    by_cases hlt : k < zss.length
    · obtain ⟨a, c, e1, n1⟩ := hcell k hlt
      have hlk := hl k
      have HB : Hid (badLen z0.length (zss.getD k []) = (!(inB (zss.getD k []).length 8 512) || ((zss.getD k []).length : Int) != (z0.length : Int))) := rfl
      have HE : Hid (badLen z0.length (zss.getD k []) = true → chk zss = 1) := fun h => if_pos (any_at hlt (by rw [HZ.out]; exact h))
      generalize hzk : zss.getD k [] = zk at *
      clear hcell
      go_wp2_with fail
      refine (within_any _ _ _ _).mono ?_
      rintro e w' ⟨rfl, rfl⟩
      by_cases hb : inB zk.length 8 512 = true
      · rw [hb]
        by_cases he : zk.length = z0.length
        · have hne : ((zk.length : Int) != (z0.length : Int)) = false := by simp [he]
          have hbl : badLen z0.length zk = false := by rw [HB.out, hb, hne]; rfl
          clear hb he
          go_wp2
          go_round
          case rel =>
            refine ⟨k + 1, by omega, by go_num, fun j hj => ?_⟩
            by_cases hjk : j = k
            · rw [hjk, hzk]; exact hbl
            · exact hall j (by omega)
          case measure => simp [intOf]; omega
        · have hne : ((zk.length : Int) != (z0.length : Int)) = true := by simp; omega
          have hbl : badLen z0.length zk = true := by rw [HB.out, hb, hne]; rfl
          have HC : Hid (chk zss = 1) := HE.out hbl
          clear hb he
          go_wp2
          go_ret
          exact ⟨by rw [HC.out]; rfl, rfl⟩
      · have hb' : inB zk.length 8 512 = false := by simpa using hb
        have hbl : badLen z0.length zk = true := by rw [HB.out, hb']; rfl
        have HC : Hid (chk zss = 1) := HE.out hbl
        rw [hb']
        clear hb hb'
        go_wp2
        go_ret
        exact ⟨by rw [HC.out]; rfl, rfl⟩
    · have hA : zss.any (badLen z0.length) = false := any_no [] fun i hi => hall i (by omega)
      have HC : Hid (chk zss = if zss.any badNum then 2 else if zss.any badHd then 5 else 0) := by unfold chk; rw [HZ.out, hA]; rfl
      have hlen : ∀ i, i < zss.length → 8 ≤ (zss.getD i []).length := fun i hi => by
        have := hall i (by omega)
        simp only [badLen, Bool.or_eq_false_iff, Bool.not_eq_false', inB, decide_eq_true_eq] at this
        omega
      clear hA hall e0 n0
      go_wp2
      go_loop [33] (fun i => ∃ k : Nat, k ≤ zss.length ∧ i = .int .i64 k ∧ ∀ j, j < k → badNum (zss.getD j []) = false) (fun i => zss.length - (intOf i).toNat)
      case atStart => exact ⟨0, Nat.zero_le _, rfl, fun j hj => by omega⟩
      case round =>
        obtain ⟨k, hk, rfl, hall⟩ := hrel
        by_cases hlt : k < zss.length
        · obtain ⟨a, c, e1, n1⟩ := hcell k hlt
          have hlk := hl k
          have hlk8 := hlen k hlt
          have HE : Hid (badNum (zss.getD k []) = true → chk zss = 2) := fun h => by rw [HC.out]; exact if_pos (any_at hlt h)
          generalize hzk : zss.getD k [] = zk at *
          obtain ⟨a1, c1, hv1, hc0⟩ := n1.shape
          simp only [Value.slice.injEq, true_and] at hv1
          obtain ⟨rfl, rfl⟩ := hv1
          obtain ⟨b1, o1, rfl, hc1⟩ := hc0 (by omega)
          clear hcell n1 hc0
          go_wp2
          go_loop [39] (fun i => ∃ q : Nat, q ≤ zk.length ∧ i = .int .i64 q ∧ ∀ j, j < q → inB (zk.getD j 0) 0 65535 = true) (fun i => zk.length - (intOf i).toNat)
          case atStart => exact ⟨0, Nat.zero_le _, rfl, fun j hj => by omega⟩
          case round =>
            obtain ⟨q, hq, rfl, hin⟩ := hrel
            by_cases hlq : q < zk.length
            · have g1 := hc1 q hlq
              have HP : Hid (inB (zk.getD q 0) 0 65535 = false → badNum zk = true) := fun h => any_at (d := 0) hlq (by rw [h]; rfl)
              generalize hzq : zk.getD q 0 = z at *
              clear hc1
              go_wp2_with fail
              refine (within_any _ _ _ _).mono ?_
              rintro e w' ⟨rfl, rfl⟩
              by_cases hb : inB z 0 65535 = true
              · rw [hb]
                go_wp2
                go_round
                case rel =>
                  refine ⟨q + 1, by omega, by go_num, fun j hj => ?_⟩
                  by_cases hjq : j = q
                  · rw [hjq, hzq]; exact hb
                  · exact hin j (by omega)
                case measure => simp [intOf]; omega
              · have hb' : inB z 0 65535 = false := by simpa using hb
                have HC2 : Hid (chk zss = 2) := HE.out (HP.out hb')
                rw [hb']
                clear hb hb'
                go_wp2
                go_ret
                exact ⟨by rw [HC2.out]; rfl, rfl⟩
            · have hok : badNum zk = false := any_no 0 fun i hi => by rw [hin i (by omega)]; rfl
              clear hin hc1
              go_wp2
              go_round
              case rel =>
                refine ⟨k + 1, by omega, by go_num, fun j hj => ?_⟩
                by_cases hjk : j = k
                · rw [hjk, hzk]; exact hok
                · exact hall j (by omega)
              case measure => simp [intOf]; omega
        · have hA : zss.any badNum = false := any_no [] fun i hi => hall i (by omega)
          have HC' : Hid (chk zss = if zss.any badHd then 5 else 0) := by rw [HC.out, hA]; rfl
          clear hA hall
          go_wp2
          go_loop [50] (fun i => ∃ k : Nat, k ≤ zss.length ∧ i = .int .i64 k ∧ ∀ j, j < k → badHd (zss.getD j []) = false) (fun i => zss.length - (intOf i).toNat)
          case atStart => exact ⟨0, Nat.zero_le _, rfl, fun j hj => by omega⟩
          case round =>
            obtain ⟨k, hk, rfl, hall⟩ := hrel
            by_cases hlt : k < zss.length
            · obtain ⟨a, c, e1, n1⟩ := hcell k hlt
              have hlk := hl k
              have hlk8 := hlen k hlt
              have HE : Hid (badHd (zss.getD k []) = true → chk zss = 5) := fun h => by rw [HC'.out]; exact if_pos (any_at hlt h)
              have HB : Hid (badHd (zss.getD k []) = ((zss.getD k []).getD 0 0 != 0 || (zss.getD k []).getD 1 0 != 0)) := rfl
              generalize hzk : zss.getD k [] = zk at *
              obtain ⟨a1, c1, hv1, hc0⟩ := n1.shape
              simp only [Value.slice.injEq, true_and] at hv1
              obtain ⟨rfl, rfl⟩ := hv1
              obtain ⟨b1, o1, rfl, hc1⟩ := hc0 (by omega)
              have g0 := hc1 0 (by omega)
              have g1 := hc1 1 (by omega)
              rw [Nat.add_zero] at g0
              generalize zk.getD 0 0 = x at *
              generalize zk.getD 1 0 = y at *
              have hl1 : (1 : Int) < (zk.length : Int) := by omega
              have hl0 : 0 < zk.length := by omega
              clear hcell n1 hc1 hc0
              by_cases hx : x = 0
              · by_cases hy : y = 0
                · subst hx hy
                  have hok : badHd zk = false := by rw [HB.out]; rfl
                  go_wp2
                  go_round
                  case rel =>
                    refine ⟨k + 1, by omega, by go_num, fun j hj => ?_⟩
                    by_cases hjk : j = k
                    · rw [hjk, hzk]; exact hok
                    · exact hall j (by omega)
                  case measure => simp [intOf]; omega
                · have hy' : (y != 0) = true := by simpa using hy
                  have HC2 : Hid (chk zss = 5) := HE.out (by rw [HB.out, hy']; simp)
                  subst hx
                  clear hy
                  go_wp2
                  go_ret
                  exact ⟨by rw [HC2.out]; rfl, rfl⟩
              · have hx' : (x != 0) = true := by simpa using hx
                have HC2 : Hid (chk zss = 5) := HE.out (by rw [HB.out, hx']; rfl)
                clear hx
                go_wp2
                go_ret
                exact ⟨by rw [HC2.out]; rfl, rfl⟩
            · have hA : zss.any badHd = false := any_no [] fun i hi => hall i (by omega)
              have HC2 : Hid (chk zss = 0) := by rw [HC'.out, hA]; rfl
              clear hA hall hcell
              go_wp2
              go_ret
              exact ⟨by rw [HC2.out]; rfl, rfl⟩
end Go.Proofs.YtamblkibmlfklabDoor
