import Derived.Test.YtlndpbebenecgaaDoorSt3
namespace Go.Proofs.YtlndpbebenecgaaDoor
open Go.RowKit

/-- element i, marked from k on -/
def mkA (ss : List (Int × Int × List Int)) (k : Int) (i : Nat) : Int × Int × List Int := markEl (k + placeS (ss.take i)) (ss.getD i (0, 0, []))
/-- the first j elements marked, the others as they were -/
def SMar (wr : World) (b off : Nat) (g : Nat → Nat) (ss : List (Int × Int × List Int)) (k : Int) (j : Nat) : Prop :=
  ∀ i, i < ss.length → i < j → SEl wr b off (g i) i (mkA ss k i)

theorem SEl.other {wr w1 : World} {b off : Nat} {g : Nat → Nat} {x y : Int} {i j : Nat} {p : Int × Int × List Int} (h : SEl wr b off (g i) i p) (hij : i ≠ j) (hgi : g i ≠ b ∧ g i < wr.heap.size) (hgj : g j ≠ b) (hb : b < wr.heap.size) (hne : g i ≠ g j)
    (hu : Upd (g j) (g j + 1) ((wr.setCell ⟨b, off + j * 3, none⟩ (.int .i64 x)).setCell ⟨b, off + j * 3 + 1, none⟩ (.int .i64 y)) w1) : SEl w1 b off (g i) i p := by
  have hsz : wr.heap.size ≤ w1.heap.size := by have := hu.size; simpa using this
  have hbb : w1.heap[b]? = ((wr.setCell ⟨b, off + j * 3, none⟩ (.int .i64 x)).setCell ⟨b, off + j * 3 + 1, none⟩ (.int .i64 y)).heap[b]? := hu.block b (by simpa using hb) (by omega)
  obtain ⟨da', dc', e1, e2, e3, e4, e5, e6⟩ := h
  refine ⟨da', dc', ?_, ?_, ?_, ?_, ?_, e6.kept hsz fun q q1 q2 q3 => ?_⟩
  · rw [World.cell?_of_block (a := ⟨b, off + i * 3, none⟩) hbb, World.cell?_setCell_other _ _ _ _ (by intro hh; simp only [Addr.mk.injEq] at hh; omega), World.cell?_setCell_other _ _ _ _ (by intro hh; simp only [Addr.mk.injEq] at hh; omega), e1]
  · rw [World.cell?_of_block (a := ⟨b, off + i * 3 + 1, none⟩) hbb, World.cell?_setCell_other _ _ _ _ (by intro hh; simp only [Addr.mk.injEq] at hh; omega), World.cell?_setCell_other _ _ _ _ (by intro hh; simp only [Addr.mk.injEq] at hh; omega), e2]
  · rw [World.cell?_of_block (a := ⟨b, off + i * 3 + 2, none⟩) hbb, World.cell?_setCell_other _ _ _ _ (by intro hh; simp only [Addr.mk.injEq] at hh; omega), World.cell?_setCell_other _ _ _ _ (by intro hh; simp only [Addr.mk.injEq] at hh; omega), e3]
  · rw [World.frozen?_of_block (a := ⟨b, off + i * 3, none⟩) hbb]; simpa using e4
  · rw [World.frozen?_of_block (a := ⟨b, off + i * 3 + 1, none⟩) hbb]; simpa using e5
  · obtain rfl : q = g i := by omega
    rw [hu.block (g i) (by simpa using q3) (by omega), Below.heap_setCell _ _ _ _ (by simpa using hgi.1)]
    exact Below.heap_setCell _ _ _ _ (by simpa using hgi.1)

theorem SEl.same {wr w1 : World} {b off : Nat} {g : Nat → Nat} {x y q q2 : Int} {j dc : Nat} {da : Option Addr} {zs ms : List Int} (e1 : wr.cell? ⟨b, off + j * 3, none⟩ = some (.int .i64 q)) (e2 : wr.cell? ⟨b, off + j * 3 + 1, none⟩ = some (.int .i64 q2)) (e3 : wr.cell? ⟨b, off + j * 3 + 2, none⟩ = some (.slice da zs.length dc)) (e4 : wr.frozen? ⟨b, off + j * 3, none⟩ = false) (e5 : wr.frozen? ⟨b, off + j * 3 + 1, none⟩ = false)
    (hgj : g j ≠ b) (hb : b < wr.heap.size) (hu : Upd (g j) (g j + 1) ((wr.setCell ⟨b, off + j * 3, none⟩ (.int .i64 x)).setCell ⟨b, off + j * 3 + 1, none⟩ (.int .i64 y)) w1) (hl : ms.length = zs.length) (ho : Own8 (g j) (g j + 1) w1 (.slice da zs.length dc) ms) : SEl w1 b off (g j) j (x, y, ms) := by
  have hbb : w1.heap[b]? = ((wr.setCell ⟨b, off + j * 3, none⟩ (.int .i64 x)).setCell ⟨b, off + j * 3 + 1, none⟩ (.int .i64 y)).heap[b]? := hu.block b (by simpa using hb) (by omega)
  refine ⟨da, dc, ?_, ?_, ?_, ?_, ?_, ?_⟩
  · rw [World.cell?_of_block (a := ⟨b, off + j * 3, none⟩) hbb, World.cell?_setCell_other _ _ _ _ (by intro hh; simp only [Addr.mk.injEq] at hh; omega), World.cell?_setCell_same _ _ _ e1]
  · rw [World.cell?_of_block (a := ⟨b, off + j * 3 + 1, none⟩) hbb]
    exact World.cell?_setCell_same _ _ _ ((World.cell?_setCell_other _ _ _ _ (by intro hh; simp only [Addr.mk.injEq] at hh; omega)).trans e2)
  · show w1.cell? ⟨b, off + j * 3 + 2, none⟩ = some (.slice da ms.length dc)
    rw [hl, World.cell?_of_block (a := ⟨b, off + j * 3 + 2, none⟩) hbb, World.cell?_setCell_other _ _ _ _ (by intro hh; simp only [Addr.mk.injEq] at hh; omega), World.cell?_setCell_other _ _ _ _ (by intro hh; simp only [Addr.mk.injEq] at hh; omega), e3]
  · rw [World.frozen?_of_block (a := ⟨b, off + j * 3, none⟩) hbb]; simpa using e4
  · rw [World.frozen?_of_block (a := ⟨b, off + j * 3 + 1, none⟩) hbb]; simpa using e5
  · show Own8 (g j) (g j + 1) w1 (.slice da ms.length dc) ms
    rw [hl]; exact ho

/-- v reads as ss does, marked from k on -/
def MRead (w : World) (v : Value) (ss : List (Int × Int × List Int)) (k : Int) : Prop :=
  ∃ a cap, v = .slice a ss.length cap ∧ (0 < ss.length → ∃ b off, a = some ⟨b, off, none⟩ ∧ ∀ i, i < ss.length → ∃ g, SEl w b off g i (mkA ss k i))

set_option maxHeartbeats 2000000 in
theorem markStepS_held (lo hi : Nat) (v : Value) (ss : List (Int × Int × List Int)) (k : Int) (w : World) (hv : SOwn lo hi w v ss) (hk : 0 ≤ k) (hn : k + placeS ss ≤ 9223372036854775806) (hl : ss.length ≤ 281474976710656) :
    Calls Tryd.prog 11 #[v, .int .i64 k] w fun e w' => e = .returned (.int .i64 (k + placeS ss)) ∧ MRead w' v ss k ∧ Upd lo hi w w' := by
  obtain ⟨a, cap, rfl, hc⟩ := hv
  by_cases hz : 0 < ss.length
  · obtain ⟨b, off, rfl, h1, h2, h3, g, hg, hinj⟩ := hc hz
    have hM : SMid w b off g ss k 0 := fun i hi _ => (hg i hi).2.2.2.2
    have hA : SMar w b off g ss k 0 := fun i hi h0 => by omega
    have hgb : ∀ i, i < ss.length → lo ≤ g i ∧ g i < hi ∧ g i ≠ b ∧ g i < w.heap.size := fun i hi => ⟨(hg i hi).1, (hg i hi).2.1, (hg i hi).2.2.1, (hg i hi).2.2.2.1⟩
    clear hc hg
    go_enter Tryd.func11, Tryd.ntmps11
    go_wp2
    go_loopw [1, 5] (fun q i wr => ∃ j : Nat, j ≤ ss.length ∧ i = .int .i64 j ∧ q = .int .i64 (k + placeS (ss.take j)) ∧ SMid wr b off g ss k j ∧ SMar wr b off g ss k j ∧ Upd lo hi w wr) (fun _ i _ => ss.length - (intOf i).toNat)
    case atStart => exact ⟨0, Nat.zero_le _, rfl, by simp [placeS, dataS], hM, hA, Upd.refl _ _ _⟩
    case round =>
      obtain ⟨j, hj, rfl, rfl, ho, hma, hu⟩ := hrel
      by_cases hlt : j < ss.length
      · obtain ⟨da, dc, e1, e2, e3, e4, e5, e6⟩ := ho j hlt (Nat.le_refl _)
        have hs1 := placeS_take_succ ss j hlt
        have hs2 := placeS_take_le ss (j + 1)
        have hs0 := placeS_nonneg (ss.take j)
        have hgj := hgb j hlt
        have hsz := hu.size
        have HST := fun w1 x y => SMid.step (w1 := w1) (x := x) (y := y) ho hlt (fun i hi => ⟨(hgb i hi).2.2.1, by have := (hgb i hi).2.2.2; omega⟩) (by omega) hinj
        have HSM : Hid (∀ w1, Upd (g j) (g j + 1) ((wr.setCell ⟨b, off + j * 3, none⟩ (.int .i64 (k + placeS (ss.take j)))).setCell ⟨b, off + j * 3 + 1, none⟩ (.int .i64 (k + placeS (ss.take j) + 1))) w1 → Own8 (g j) (g j + 1) w1 (.slice da (ss.getD j (0, 0, [])).2.2.length dc) (marks (k + placeS (ss.take j) + 2) (ss.getD j (0, 0, [])).2.2.length) → SMar w1 b off g ss k (j + 1)) := by
          intro w1 hu1 ho1 i hi hij
          by_cases hije : i = j
          · subst hije
            exact SEl.same e1 e2 e3 e4 e5 (hgb i hi).2.2.1 (by omega) hu1 (marks_length _ _) ho1
          · exact (hma i hi (by omega)).other hije ⟨(hgb i hi).2.2.1, by have := (hgb i hi).2.2.2; omega⟩ hgj.2.2.1 (by omega) (fun e => hije (hinj i j hi hlt e)) hu1
        have HS1 : Hid (placeS (ss.take (j + 1)) = placeS (ss.take j) + 2 + (ss.getD j (0, 0, [])).2.2.length) := hs1
        have hbd : k + placeS (ss.take j) + 2 + (ss.getD j (0, 0, [])).2.2.length ≤ 9223372036854775806 := by omega
        have e7 := fun x y => e6.kept (w' := (wr.setCell ⟨b, off + j * 3, none⟩ (.int .i64 x)).setCell ⟨b, off + j * 3 + 1, none⟩ (.int .i64 y)) (by simp) fun q q1 q2 q3 => (Below.heap_setCell _ _ _ _ (by have := hgj.2.2.1; simp; omega)).trans (Below.heap_setCell _ _ _ _ (by have := hgj.2.2.1; simp; omega))
        have hu1 := fun x y => (hu.setCell (p := ⟨b, off + j * 3, none⟩) h1 h2 (.int .i64 x)).setCell (p := ⟨b, off + j * 3 + 1, none⟩) h1 h2 (.int .i64 y)
        have HSTH := fun w1 x y => (show Hid _ from HST w1 x y)
        clear hs1 hs2 ho HST hma
        generalize hS : placeS (ss.take j) = S at *
        generalize hp : ss.getD j (0, 0, []) = p at *
        obtain ⟨q, q2, zs⟩ := p
        have HS : Hid (placeS (ss.take j) = S) := hS
        have HP : Hid (ss.getD j (0, 0, []) = (q, q2, zs)) := hp
        clear hS hp
        simp only at e1 e2 e3 e6 e7 hbd HSM
        go_wp2_with fail
        refine (markByteS_any (g j) (g j + 1) _ zs _ _ (e7 _ _) (by omega) (by omega)).mono ?_
        rintro e w1 ⟨rfl, hm1, hv1⟩
        have hst := (HSTH w1 _ _).out hv1
        have hmr := HSM.out w1 (by simpa using hv1) (by simpa [Int.add_assoc] using hm1)
        have hu2 : Upd lo hi w w1 := (hu1 _ _).trans (hv1.wider (by omega) (by omega))
        clear HSTH hv1 hu1 e7 e6 hm1
        go_wp2
        go_roundw
        case rel => exact ⟨j + 1, by omega, by go_num, by rw [HS1.out]; simp only [Value.int.injEq, true_and]; omega, hst, hmr, hu2⟩
        case measure => simp [intOf]; omega
      · have hje : ss.length = j := by omega
        have HF : Hid (placeS (ss.take j) = placeS ss) := by rw [← hje, List.take_length]; rfl
        have HM : Hid (MRead wr (.slice (some ⟨b, off, none⟩) ss.length cap) ss k) := ⟨_, _, rfl, fun _ => ⟨b, off, rfl, fun i hi => ⟨g i, hma i hi (by omega)⟩⟩⟩
        clear hje ho hma
        go_wp2
        go_ret
        exact ⟨by rw [HF.out]; rfl, HM.out, hu⟩
  · have hz0 : ss = [] := List.eq_nil_of_length_eq_zero (by omega)
    subst hz0
    clear hc
    go_enter Tryd.func11, Tryd.ntmps11
    go_wp2
    go_loopw [1, 5] (fun q i wr => i = .int .i64 0 ∧ q = .int .i64 k ∧ w = wr) (fun _ _ _ => 0)
    case atStart => exact ⟨rfl, rfl, rfl⟩
    case round =>
      obtain ⟨rfl, rfl, rfl⟩ := hrel
      go_wp2
      go_ret
      exact ⟨by simp [placeS, dataS], ⟨_, _, rfl, fun h => by simp at h⟩, Upd.refl _ _ _⟩

set_option maxHeartbeats 2000000 in
theorem heldStepS_any (v : Value) (ss : List (Int × Int × List Int)) (k : Int) (w : World) (hv : MRead w v ss k) (hk : 0 ≤ k) (hn : k + placeS ss ≤ 9223372036854775806) (hl : ss.length ≤ 281474976710656) :
    Calls Tryd.prog 12 #[v, .int .i64 k] w fun e w' => e = .returned (.int .i64 (k + placeS ss)) ∧ w = w' := by
  obtain ⟨a, cap, rfl, hc⟩ := hv
  by_cases hz : 0 < ss.length
  · obtain ⟨b, off, rfl, hel⟩ := hc hz
    clear hc
    go_enter Tryd.func12, Tryd.ntmps12
    go_wp2
    go_loopw [1, 5] (fun q i wr => ∃ j : Nat, j ≤ ss.length ∧ i = .int .i64 j ∧ q = .int .i64 (k + placeS (ss.take j)) ∧ w = wr) (fun _ i _ => ss.length - (intOf i).toNat)
    case atStart => exact ⟨0, Nat.zero_le _, rfl, by simp [placeS, dataS], rfl⟩
    case round =>
      obtain ⟨j, hj, rfl, rfl, rfl⟩ := hrel
      by_cases hlt : j < ss.length
      · obtain ⟨g, da, dc, e1, e2, e3, -, -, e6⟩ := hel j hlt
        have hs1 := placeS_take_succ ss j hlt
        have hs2 := placeS_take_le ss (j + 1)
        have hs0 := placeS_nonneg (ss.take j)
        have HS1 : Hid (placeS (ss.take (j + 1)) = placeS (ss.take j) + 2 + (ss.getD j (0, 0, [])).2.2.length) := hs1
        have hbd : k + placeS (ss.take j) + 2 + (ss.getD j (0, 0, [])).2.2.length ≤ 9223372036854775806 := by omega
        have e6' := e6.bts
        simp only [mkA, markEl, marks_length] at e1 e2 e3 e6'
        clear hs1 hs2 e6
        generalize hS : placeS (ss.take j) = S at *
        generalize hp : (ss.getD j (0, 0, [])).2.2.length = m at *
        have HS : Hid (placeS (ss.take j) = S) := hS
        clear hS hp
        have n1 : ((k + S) != (k + S)) = false := by simp
        have n2 : ((k + S + 1) != (k + S + 1)) = false := by simp
        rw [show k + S + 2 = k + S + 1 + 1 by omega] at e6'
        have n3 : ¬ (k + S + 1 + 1 + (m : Int) < 0) := by omega
        go_wp2_with fail
        refine (heldByteS_any _ _ m _ e6' (by omega) (by omega)).mono ?_
        rintro e w1 ⟨rfl, rfl⟩
        clear e1 e2 e3 e6'
        go_wp2
        go_roundw
        case rel => exact ⟨j + 1, by omega, by go_num, by rw [HS1.out]; simp only [Value.int.injEq, true_and]; omega, trivial⟩
        case measure => simp [intOf]; omega
      · have hje : ss.length = j := by omega
        have HF : Hid (placeS (ss.take j) = placeS ss) := by rw [← hje, List.take_length]; rfl
        clear hje
        go_wp2
        go_ret
        exact ⟨by rw [HF.out]; rfl, rfl⟩
  · have hz0 : ss = [] := List.eq_nil_of_length_eq_zero (by omega)
    subst hz0
    clear hc
    go_enter Tryd.func12, Tryd.ntmps12
    go_wp2
    go_loopw [1, 5] (fun q i wr => i = .int .i64 0 ∧ q = .int .i64 k ∧ w = wr) (fun _ _ _ => 0)
    case atStart => exact ⟨rfl, rfl, rfl⟩
    case round =>
      obtain ⟨rfl, rfl, rfl⟩ := hrel
      go_wp2
      go_ret
      exact ⟨by simp [placeS, dataS], rfl⟩
end Go.Proofs.YtlndpbebenecgaaDoor
