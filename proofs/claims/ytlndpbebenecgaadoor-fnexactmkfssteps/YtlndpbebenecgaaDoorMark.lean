import Derived.Test.YtlndpbebenecgaaDoorMem
namespace Go.Proofs.YtlndpbebenecgaaDoor
open Go.RowKit

theorem Own8.stored {lo hi : Nat} {w : World} {b off n cap : Nat} {zs : List Int} (h : Own8 lo hi w (.slice (some ⟨b, off, none⟩) n cap) zs) (j : Nat) (hj : j < n) (x : Int) (hx : 0 ≤ x ∧ x < 256) :
    Own8 lo hi (w.setCell ⟨b, off + j, none⟩ (.int .u8 x)) (.slice (some ⟨b, off, none⟩) n cap) (zs.set j x) ∧ Upd lo hi w (w.setCell ⟨b, off + j, none⟩ (.int .u8 x)) := by
  obtain ⟨a, cap', hv, hc⟩ := h.shape
  simp only [Value.slice.injEq] at hv
  obtain ⟨rfl, rfl, rfl⟩ := hv
  obtain ⟨b', off', ha, h1, h2, h3, hcell⟩ := hc (by omega)
  simp only [Option.some.injEq, Addr.mk.injEq, and_true] at ha
  obtain ⟨rfl, rfl⟩ := ha
  refine ⟨⟨fun i => ?_, _, _, by rw [List.length_set], fun _ => ⟨b, off, rfl, h1, h2, by simpa using h3, fun i hi => ?_⟩⟩, (Upd.refl _ _ _).setCell h1 h2 _⟩
  · have hs := h.small i
    simp only [List.getD_eq_getElem?_getD] at hs ⊢
    rw [List.getElem?_set]
    by_cases hij : j = i
    · rw [if_pos hij, if_pos (by omega)]; simpa using hx
    · rw [if_neg hij]; exact hs
  · rw [List.length_set] at hi
    have hci := hcell i hi
    refine ⟨?_, by simpa using hci.2⟩
    simp only [List.getD_eq_getElem?_getD]
    rw [List.getElem?_set]
    by_cases hij : j = i
    · subst hij
      rw [if_pos rfl, if_pos hi, World.cell?_setCell_same _ _ _ hci.1]; rfl
    · rw [if_neg hij, World.cell?_setCell_other _ _ _ _ (by intro hh; simp only [Addr.mk.injEq] at hh; omega), hci.1]; rfl

/-- what a mark from k on leaves in n bytes -/
def marks (k : Int) (n : Nat) : List Int := (List.range n).map fun (i : Nat) => (k + (i : Int)) % 256

theorem marks_length (k : Int) (n : Nat) : (marks k n).length = n := by simp [marks]

theorem marks_get (k : Int) (n i : Nat) (h : i < n) : (marks k n).getD i 0 = (k + (i : Int)) % 256 := by
  simp [marks, h]

/-- the first j of them -/
def marked (k : Int) (zs : List Int) (j : Nat) : List Int := marks k j ++ zs.drop j

theorem marked_zero (k : Int) (zs : List Int) : marked k zs 0 = zs := by simp [marked, marks]

theorem marked_end (k : Int) (zs : List Int) : marked k zs zs.length = marks k zs.length := by simp [marked]

theorem marked_length (k : Int) (zs : List Int) (j : Nat) (h : j ≤ zs.length) : (marked k zs j).length = zs.length := by
  simp [marked, marks_length]; omega

theorem marked_step (k : Int) (zs : List Int) (j : Nat) (h : j < zs.length) : (marked k zs j).set j ((k + (j : Int)) % 256) = marked k zs (j + 1) := by
  apply List.ext_getElem?
  intro i
  rw [List.getElem?_set]
  simp only [marked, marks, List.getElem?_append, List.length_map, List.length_range, List.getElem?_map, List.getElem?_drop, List.length_append, List.length_drop]
  by_cases hij : j = i
  · subst hij
    rw [if_pos rfl, if_pos (by omega), if_pos (by omega)]
    simp
  · rw [if_neg hij]
    by_cases hlt : i < j
    · rw [if_pos hlt, if_pos (by omega)]
      simp [hlt, show i < j + 1 by omega]
    · rw [if_neg hlt, if_neg (by omega), show j + (i - j) = j + 1 + (i - (j + 1)) by omega]

set_option maxHeartbeats 400000 in
theorem markByteS_any (lo hi : Nat) (v : Value) (zs : List Int) (k : Int) (w : World) (hv : Own8 lo hi w v zs) (hk : 0 ≤ k) (hn : k + zs.length ≤ 9223372036854775806) :
    Calls Tryd.prog 20 #[v, .int .i64 k] w fun e w' => e = .returned (.int .i64 (k + zs.length)) ∧ Own8 lo hi w' v (marks k zs.length) ∧ Upd lo hi w w' := by
  obtain ⟨a, cap, rfl, hc⟩ := hv.shape
  by_cases hz : 0 < zs.length
  · obtain ⟨b, off, rfl, h1, h2, h3, _⟩ := hc hz
    clear hc
    go_enter Tryd.func20, Tryd.ntmps20
    go_wp2
    go_loopw [1, 5] (fun q i wr => ∃ j : Nat, j ≤ zs.length ∧ i = .int .i64 j ∧ q = .int .i64 (k + j) ∧ Own8 lo hi wr (.slice (some ⟨b, off, none⟩) zs.length cap) (marked k zs j) ∧ Upd lo hi w wr) (fun _ i _ => zs.length - (intOf i).toNat)
    case atStart => exact ⟨0, Nat.zero_le _, rfl, by simp, by rw [marked_zero]; exact hv, Upd.refl _ _ _⟩
    case round =>
      obtain ⟨j, hj, rfl, rfl, ho, hu⟩ := hrel
      by_cases hlt : j < zs.length
      · have hst := ho.stored j hlt ((k + (j : Int)) % 256) (by omega)
        rw [marked_step k zs j hlt] at hst
        have HS := hst
        have hcf : wr.cell? ⟨b, off + j, none⟩ = some (.int .u8 ((marked k zs j).getD j 0)) ∧ wr.frozen? ⟨b, off + j, none⟩ = false := by
          obtain ⟨a', cap', hv', hc'⟩ := ho.shape
          simp only [Value.slice.injEq] at hv'
          obtain ⟨rfl, _, rfl⟩ := hv'
          have hlen := marked_length k zs j hj
          obtain ⟨b', off', ha', _, _, _, hcell⟩ := hc' (by omega)
          simp only [Option.some.injEq, Addr.mk.injEq, and_true] at ha'
          obtain ⟨rfl, rfl⟩ := ha'
          exact hcell j (by omega)
        obtain ⟨hc1, hc2⟩ := hcf
        have hu2 := hu.trans hst.2
        have ho2 := hst.1
        clear hst HS ho hu
        go_wp2
        go_roundw
        case rel => exact ⟨j + 1, by omega, by go_num, by go_num, ho2, hu2⟩
        case measure => simp [intOf]; omega
      · have hje : zs.length = j := by omega
        have ho2 : Own8 lo hi wr (.slice (some ⟨b, off, none⟩) zs.length cap) (marks k zs.length) := by rw [← marked_end, hje]; rw [hje] at ho; exact ho
        have HJ : Hid (zs.length = j) := hje
        clear ho hje
        go_wp2
        go_ret
        exact ⟨by rw [HJ.out]; rfl, ho2, hu⟩
  · have hz0 : zs = [] := List.eq_nil_of_length_eq_zero (by omega)
    subst hz0
    clear hc
    go_enter Tryd.func20, Tryd.ntmps20
    go_wp2
    go_loopw [1, 5] (fun q i wr => i = .int .i64 0 ∧ q = .int .i64 k ∧ w = wr) (fun _ _ _ => 0)
    case atStart => exact ⟨rfl, rfl, rfl⟩
    case round =>
      obtain ⟨rfl, rfl, rfl⟩ := hrel
      go_wp2
      go_ret
      exact ⟨by simp, hv, Upd.refl _ _ _⟩

set_option maxHeartbeats 400000 in
theorem heldByteS_any (v : Value) (k : Int) (n : Nat) (w : World) (hv : Bts w v (marks k n)) (hk : 0 ≤ k) (hn : k + n ≤ 9223372036854775806) :
    Calls Tryd.prog 21 #[v, .int .i64 k] w fun e w' => e = .returned (.int .i64 (k + n)) ∧ w = w' := by
  obtain ⟨a, cap, rfl, hc⟩ := hv.shape
  rw [marks_length] at hc
  rw [marks_length]
  by_cases hz : 0 < n
  · obtain ⟨b, off, rfl, hcell⟩ := hc hz
    clear hc
    go_enter Tryd.func21, Tryd.ntmps21
    go_wp2
    go_loop [1, 5] (fun q i => ∃ j : Nat, j ≤ n ∧ i = .int .i64 j ∧ q = .int .i64 (k + j)) (fun _ i => n - (intOf i).toNat)
    case atStart => exact ⟨0, Nat.zero_le _, rfl, by simp⟩
    case round =>
      obtain ⟨j, hj, rfl, rfl⟩ := hrel
      by_cases hlt : j < n
      · have hc1 : w.cell? ⟨b, off + j, none⟩ = some (.int .u8 ((k + (j : Int)) % 256)) := by rw [hcell j hlt, marks_get k n j hlt]
        clear hcell
        go_wp2
        go_round
        case rel => exact ⟨j + 1, by omega, by go_num, by go_num⟩
        case measure => simp [intOf]; omega
      · have HJ : Hid (n = j) := (by omega : n = j)
        go_wp2
        go_ret
        exact ⟨by rw [HJ.out]; rfl, rfl⟩
  · have hz0 : n = 0 := by omega
    subst hz0
    clear hc
    go_enter Tryd.func21, Tryd.ntmps21
    go_wp2
    go_loop [1, 5] (fun q i => i = .int .i64 0 ∧ q = .int .i64 k) (fun _ _ => 0)
    case atStart => exact ⟨rfl, rfl⟩
    case round =>
      obtain ⟨rfl, rfl⟩ := hrel
      go_wp2
      go_ret
      exact ⟨by simp, rfl⟩

theorem toByteS_own (v : Value) (zs : List Int) (w : World) (hv : Bts w v zs) (hn : zs.length ≤ 281474976710656) :
    Calls Tryd.prog 35 #[v] w fun e w' => e = .returned (.slice (some ⟨w.heap.size, 0, none⟩) zs.length zs.length) ∧ Own8 w.heap.size w'.heap.size w' (.slice (some ⟨w.heap.size, 0, none⟩) zs.length zs.length) zs ∧ Below w.heap.size w w' := by
  refine (toByteS_any v zs w hv hn).mono fun e w' hq => ?_
  obtain ⟨rfl, rfl⟩ := hq
  exact ⟨rfl, (Own8.made w zs hv.small _ rfl).wider (Nat.le_refl _) (by simp), (Below.refl _ _).alloc (Nat.le_refl _) _⟩

theorem eqByteS_own (v v' : Value) (zs : List Int) (w : World) (hv : Bts w v zs) (hv' : Bts w v' zs) (hn : zs.length ≤ 281474976710656) :
    Calls Tryd.prog 17 #[v, v'] w fun e w' => e = .returned (.bool true) ∧ Below w.heap.size w w' := by
  refine (eqByteS_same v v' zs w hv hv' hn).mono fun e w' hq => ?_
  obtain ⟨rfl, n, rfl⟩ := hq
  exact ⟨rfl, below_drewN (Below.refl _ _) n⟩
end Go.Proofs.YtlndpbebenecgaaDoor
