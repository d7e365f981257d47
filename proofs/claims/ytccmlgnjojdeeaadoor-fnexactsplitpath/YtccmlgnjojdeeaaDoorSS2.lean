import Derived.Test.YtccmlgnjojdeeaaDoorSS1
import Derived.Laws.BytesString
import Derived.Deep.RegionHeld3
namespace Go.Proofs.YtccmlgnjojdeeaaDoor
open Go.RowKit

set_option maxHeartbeats 400000 in
theorem eqStringS_same (v v' : Value) (zs : List ByteArray) (w : World) (hv : SRd w v zs) (hv' : SRd w v' zs) (hn : zs.length ≤ 4294967296) :
    Calls Tryd.prog 6 #[v, v'] w fun e w' => e = .returned (.bool true) ∧ ∃ n, w' = w.drewN n := by
  obtain ⟨a, cap, rfl, hc⟩ := hv
  obtain ⟨a', cap', rfl, hc'⟩ := hv'
  by_cases hz : 0 < zs.length
  · obtain ⟨b, off, rfl, hcell⟩ := hc hz
    obtain ⟨b', off', rfl, hcell'⟩ := hc' hz
    have heq : ((zs.length : Int) != (zs.length : Int)) = false := by simp
    clear hc hc'
    go_enter Tryd.func6, Tryd.ntmps6
    go_wp2
    go_loopw [5] (fun i wr => ∃ k : Nat, k ≤ zs.length ∧ i = .int .i64 k ∧ ∃ n, wr = w.drewN n) (fun i _ => zs.length - (intOf i).toNat)
    case atStart => exact ⟨0, Nat.zero_le _, rfl, 0, rfl⟩
    case round =>
      obtain ⟨k, hk, rfl, n, rfl⟩ := hrel
      by_cases hlt : k < zs.length
      · have g1 : w.cell? ⟨b, off + k, none⟩ = some (.string (txt zs k)) := hcell k hlt
        have g2 : w.cell? ⟨b', off' + k, none⟩ = some (.string (txt zs k)) := hcell' k hlt
        have hi : (k : Int) < (zs.length : Int) := by omega
        clear hcell hcell'
        go_wp2
        go_quiet (fail)
        go_wp2
        go_roundw
        case rel => exact ⟨k + 1, by omega, by go_num, _, rfl⟩
        case measure => simp [intOf]; omega
      · go_wp2
        go_ret
        exact ⟨rfl, _, rfl⟩
  · have hz0 : zs = [] := List.eq_nil_of_length_eq_zero (by omega)
    subst hz0
    clear hc hc'
    go_enter Tryd.func6, Tryd.ntmps6
    go_wp2
    go_loopw [5] (fun i wr => i = .int .i64 0 ∧ wr = w) (fun _ _ => 0)
    case atStart => exact ⟨rfl, rfl⟩
    case round =>
      obtain ⟨rfl, rfl⟩ := hrel
      go_wp2
      go_ret
      exact ⟨rfl, 0, rfl⟩

theorem eqStringS_own (v v' : Value) (zs : List ByteArray) (w : World) (hv : SRd w v zs) (hv' : SRd w v' zs) (hn : zs.length ≤ 4294967296) :
    Calls Tryd.prog 6 #[v, v'] w fun e w' => e = .returned (.bool true) ∧ Below w.heap.size w w' := by
  refine (eqStringS_same v v' zs w hv hv' hn).mono fun e w' hq => ?_
  obtain ⟨rfl, n, rfl⟩ := hq
  exact ⟨rfl, (Below.refl _ _).trans ⟨rfl, rfl, rfl, Nat.le_refl _, fun _ _ => rfl⟩⟩

/-- the text of one byte -/
def dgt (x : Int) : ByteArray := ByteArray.empty.push (UInt8.ofNat x.toNat)

theorem dgt_size (x : Int) : (dgt x).size = 1 := by simp [dgt, ByteArray.size_push]

theorem dgt_run (w : World) (x : Int) : (convert 35 9 (.slice (some ⟨w.heap.size, 0, none⟩) 1 1)).run Tryd.prog (w.alloc (.cells #[.int .u8 x] 5)) = .ok (.string (dgt x)) (w.alloc (.cells #[.int .u8 x] 5)) := by
  rw [run_convert_bytes_string _ 35 9 5 _ _ _ Tryd.underlying35 Tryd.underlying5 Tryd.underlying9]
  rw [run_bytesToString _ _ 1 1 [x] ?_]
  · rfl
  · refine run_loadCells_list _ _ ([x].map (Value.int .u8)) ?_
    intro j v hj
    match j, hj with
    | 0, hj => simp at hj; subst hj; simp [Addr.add, World.cell?_alloc_at]

/-- the decimal digits of a number ahead of a text -/
def mkD (k : Nat) (out : ByteArray) : ByteArray := if 0 < k then mkD (k / 10) (dgt (48 + (k : Int) % 10) ++ out) else out
 termination_by k
 decreasing_by omega

theorem mkD_step {k : Nat} (h : 0 < k) (out : ByteArray) : mkD k out = mkD (k / 10) (dgt (48 + (k : Int) % 10) ++ out) := by rw [mkD, if_pos h]
theorem mkD_end (out : ByteArray) : mkD 0 out = out := by rw [mkD, if_neg (by omega)]

/-- the mark of a number -/
def mkT (k : Nat) : ByteArray := { data := #[109] } ++ mkD k { data := #[] }

set_option maxHeartbeats 800000 in
theorem markText_any (k : Nat) (w : World) (hk : 1 ≤ k) (hk2 : k ≤ 1000000) :
    Calls Tryd.prog 14 #[.int .i64 k] w fun e w' => e = .returned (.string (mkT k)) ∧ Below w.heap.size w w' := by
  go_enter Tryd.func14, Tryd.ntmps14
  go_wp2
  go_loopw [0, 3] (fun kk out wr => ∃ (j : Nat) (t : ByteArray), kk = .int .i64 j ∧ out = .string t ∧ t.size + j ≤ 1000000 ∧ Hid (mkD j t = mkD k { data := #[] }) ∧ Below w.heap.size w wr) (fun kk _ _ => (intOf kk).toNat)
  case atStart => exact ⟨k, _, rfl, rfl, by rw [show (ByteArray.mk #[]).size = 0 from rfl]; omega, rfl, Below.refl _ _⟩
  case round =>
    obtain ⟨j, t, rfl, rfl, hj, HM, hb⟩ := hrel
    by_cases h0 : 0 < j
    · have hcv := dgt_run wr (48 + (j : Int) % 10)
      have hds := dgt_size (48 + (j : Int) % 10)
      go_wp2
      go_roundw
      case rel =>
        refine ⟨j / 10, _, by go_num, rfl, ?_, ?_, hb.alloc hb.size _⟩
        · rw [ByteArray.size_append, hds]; omega
        · exact (mkD_step h0 t).symm.trans HM.out
      case measure => simp [intOf]; omega
    · have hj0 : j = 0 := by omega
      subst hj0
      go_wp2
      go_ret
      have := HM.out
      rw [mkD_end] at this
      exact ⟨by rw [mkT, ← this]; rfl, hb⟩

/-- what a mark from k on leaves in n texts -/
def mkS (k n : Nat) : List ByteArray := (List.range n).map fun i => mkT (k + i)

theorem mkS_length (k n : Nat) : (mkS k n).length = n := by simp [mkS]

theorem mkS_get (k n i : Nat) (h : i < n) : txt (mkS k n) i = mkT (k + i) := by simp [txt, mkS, h]

/-- the first j of them -/
def mkdS (k : Nat) (zs : List ByteArray) (j : Nat) : List ByteArray := mkS k j ++ zs.drop j

theorem mkdS_zero (k : Nat) (zs : List ByteArray) : mkdS k zs 0 = zs := by simp [mkdS, mkS]

theorem mkdS_end (k : Nat) (zs : List ByteArray) : mkdS k zs zs.length = mkS k zs.length := by simp [mkdS]

theorem mkdS_length (k : Nat) (zs : List ByteArray) (j : Nat) (h : j ≤ zs.length) : (mkdS k zs j).length = zs.length := by
  simp [mkdS, mkS_length]; omega

theorem mkdS_step (k : Nat) (zs : List ByteArray) (j : Nat) (h : j < zs.length) : (mkdS k zs j).set j (mkT (k + j)) = mkdS k zs (j + 1) := by
  apply List.ext_getElem?
  intro i
  rw [List.getElem?_set]
  simp only [mkdS, mkS, List.getElem?_append, List.length_map, List.length_range, List.getElem?_map, List.getElem?_drop, List.length_append, List.length_drop]
  by_cases hij : j = i
  · subst hij
    rw [if_pos rfl, if_pos (by omega), if_pos (by omega)]
    simp
  · rw [if_neg hij]
    by_cases hlt : i < j
    · rw [if_pos hlt, if_pos (by omega)]
      simp [hlt, show i < j + 1 by omega]
    · rw [if_neg hlt, if_neg (by omega), show j + (i - j) = j + 1 + (i - (j + 1)) by omega]

theorem SOwn.cell {lo hi : Nat} {w : World} {b off n cap : Nat} {zs : List ByteArray} (h : SOwn lo hi w (.slice (some ⟨b, off, none⟩) n cap) zs) (j : Nat) (hj : j < n) :
    w.cell? ⟨b, off + j, none⟩ = some (.string (txt zs j)) ∧ w.frozen? ⟨b, off + j, none⟩ = false := by
  obtain ⟨a, cap', hv, hc⟩ := h
  simp only [Value.slice.injEq] at hv
  obtain ⟨rfl, rfl, rfl⟩ := hv
  obtain ⟨b', off', ha, h1, h2, h3, hcell⟩ := hc (by omega)
  simp only [Option.some.injEq, Addr.mk.injEq, and_true] at ha
  obtain ⟨rfl, rfl⟩ := ha
  exact hcell j hj

theorem SOwn.stored {lo hi : Nat} {w : World} {b off n cap : Nat} {zs : List ByteArray} (h : SOwn lo hi w (.slice (some ⟨b, off, none⟩) n cap) zs) (j : Nat) (hj : j < n) (x : ByteArray) :
    SOwn lo hi (w.setCell ⟨b, off + j, none⟩ (.string x)) (.slice (some ⟨b, off, none⟩) n cap) (zs.set j x) ∧ Upd lo hi w (w.setCell ⟨b, off + j, none⟩ (.string x)) := by
  obtain ⟨a, cap', hv, hc⟩ := h
  simp only [Value.slice.injEq] at hv
  obtain ⟨rfl, rfl, rfl⟩ := hv
  obtain ⟨b', off', ha, h1, h2, h3, hcell⟩ := hc (by omega)
  simp only [Option.some.injEq, Addr.mk.injEq, and_true] at ha
  obtain ⟨rfl, rfl⟩ := ha
  refine ⟨⟨_, _, by rw [List.length_set], fun _ => ⟨b, off, rfl, h1, h2, by simpa using h3, fun i hi => ?_⟩⟩, (Upd.refl _ _ _).setCell h1 h2 _⟩
  rw [List.length_set] at hi
  have hci := hcell i hi
  refine ⟨?_, by simpa using hci.2⟩
  simp only [txt, List.getD_eq_getElem?_getD]
  rw [List.getElem?_set]
  by_cases hij : j = i
  · subst hij
    rw [if_pos rfl, if_pos hi, World.cell?_setCell_same _ _ _ hci.1]; rfl
  · rw [if_neg hij, World.cell?_setCell_other _ _ _ _ (by intro hh; simp only [Addr.mk.injEq] at hh; omega), hci.1]; rfl

set_option maxHeartbeats 800000 in
theorem markStringS_any (lo hi : Nat) (v : Value) (zs : List ByteArray) (k : Nat) (w : World) (hv : SOwn lo hi w v zs) (hk : 1 ≤ k) (hn : k + zs.length ≤ 1000000) :
    Calls Tryd.prog 7 #[v, .int .i64 k] w fun e w' => e = .returned (.int .i64 (k + zs.length : Nat)) ∧ SOwn lo hi w' v (mkS k zs.length) ∧ Upd lo hi w w' := by
  have hv0 := hv
  obtain ⟨a, cap, rfl, hc⟩ := hv
  by_cases hz : 0 < zs.length
  · obtain ⟨b, off, rfl, h1, h2, h3, _⟩ := hc hz
    clear hc
    go_enter Tryd.func7, Tryd.ntmps7
    go_wp2
    go_loopw [1, 5] (fun q i wr => ∃ j : Nat, j ≤ zs.length ∧ i = .int .i64 j ∧ q = .int .i64 (k + j : Nat) ∧ SOwn lo hi wr (.slice (some ⟨b, off, none⟩) zs.length cap) (mkdS k zs j) ∧ Upd lo hi w wr) (fun _ i _ => zs.length - (intOf i).toNat)
    case atStart => exact ⟨0, Nat.zero_le _, rfl, by simp, by rw [mkdS_zero]; exact hv0, Upd.refl _ _ _⟩
    case round =>
      obtain ⟨j, hj, rfl, rfl, ho, hu⟩ := hrel
      by_cases hlt : j < zs.length
      · go_wp2_with (go_at_call 14; refine (markText_any (k + j) _ (by omega) (by omega)).mono ?_)
        rintro e w1 ⟨rfl, hb1⟩
        have ho1 := ho.below hb1
        have hst := ho1.stored j hlt (mkT (k + j))
        rw [mkdS_step k zs j hlt] at hst
        obtain ⟨hc1, hc2⟩ := ho1.cell j hlt
        have hu2 := (hu.trans (Upd.of_below _ _ hb1)).trans hst.2
        have ho2 := hst.1
        clear hst ho hu ho1
        go_wp2
        go_roundw
        case rel => exact ⟨j + 1, by omega, by go_num, by go_num, ho2, hu2⟩
        case measure => simp [intOf]; omega
      · have hje : zs.length = j := by omega
        have ho2 : SOwn lo hi wr (.slice (some ⟨b, off, none⟩) zs.length cap) (mkS k zs.length) := by rw [← mkdS_end, hje]; rw [hje] at ho; exact ho
        have HJ : Hid (zs.length = j) := hje
        clear ho hje
        go_wp2
        go_ret
        exact ⟨by rw [HJ.out]; rfl, ho2, hu⟩
  · have hz0 : zs = [] := List.eq_nil_of_length_eq_zero (by omega)
    subst hz0
    clear hc
    go_enter Tryd.func7, Tryd.ntmps7
    go_wp2
    go_loopw [1, 5] (fun q i wr => i = .int .i64 0 ∧ q = .int .i64 k ∧ w = wr) (fun _ _ _ => 0)
    case atStart => exact ⟨rfl, rfl, rfl⟩
    case round =>
      obtain ⟨rfl, rfl, rfl⟩ := hrel
      go_wp2
      go_ret
      exact ⟨by simp, hv0, Upd.refl _ _ _⟩

set_option maxHeartbeats 800000 in
theorem heldStringS_any (v : Value) (k n : Nat) (w : World) (hv : SRd w v (mkS k n)) (hk : 1 ≤ k) (hn : k + n ≤ 1000000) :
    Calls Tryd.prog 8 #[v, .int .i64 k] w fun e w' => e = .returned (.int .i64 (k + n : Nat)) ∧ Below w.heap.size w w' := by
  obtain ⟨a, cap, rfl, hc⟩ := hv
  rw [mkS_length] at hc
  rw [mkS_length]
  by_cases hz : 0 < n
  · obtain ⟨b, off, rfl, hcell⟩ := hc hz
    clear hc
    have hb : b < w.heap.size := World.block_lt_of_cell? _ _ (hcell 0 hz)
    go_enter Tryd.func8, Tryd.ntmps8
    go_wp2
    go_loopw [1, 5] (fun q i wr => ∃ j : Nat, j ≤ n ∧ i = .int .i64 j ∧ q = .int .i64 (k + j : Nat) ∧ Below w.heap.size w wr) (fun _ i _ => n - (intOf i).toNat)
    case atStart => exact ⟨0, Nat.zero_le _, rfl, by simp, Below.refl _ _⟩
    case round =>
      obtain ⟨j, hj, rfl, rfl, hbw⟩ := hrel
      by_cases hlt : j < n
      · have hc1 : wr.cell? ⟨b, off + j, none⟩ = some (.string (mkT (k + j))) := by rw [hbw.cell (p := ⟨b, off + j, none⟩) hb, hcell j hlt, mkS_get k n j hlt]
        have hbb : b < wr.heap.size := Nat.lt_of_lt_of_le hb hbw.size
        have HB : Hid (Below w.heap.size w wr) := hbw
        clear hcell hbw
        go_wp2
        go_region_held3 (fun w' => w'.cell? ⟨b, off + j, none⟩ = some (.string (mkT (k + j)))) (first | go_keep | assumption)
          ((go_at_call 14; refine (markText_any (k + j) wr.drew (by omega) (by omega)).mono ?_; rintro e w1 ⟨rfl, hb1⟩; have hk1 : w1.cell? ⟨b, off + j, none⟩ = some (.string (mkT (k + j))) := (hb1.cell (p := ⟨b, off + j, none⟩) hbb).trans hc1))
        have hb2 := HB.out.drew.trans (hb1.mono HB.out.size)
        clear hb1
        go_wp2
        go_roundw
        case rel => exact ⟨j + 1, by omega, by go_num, by go_num, hb2⟩
        case measure => simp [intOf]; omega
      · have HJ : Hid (n = j) := (by omega : n = j)
        go_wp2
        go_ret
        exact ⟨by rw [HJ.out]; rfl, hbw⟩
  · have hz0 : n = 0 := by omega
    subst hz0
    clear hc
    go_enter Tryd.func8, Tryd.ntmps8
    go_wp2
    go_loop [1, 5] (fun q i => i = .int .i64 0 ∧ q = .int .i64 k) (fun _ _ => 0)
    case atStart => exact ⟨rfl, rfl⟩
    case round =>
      obtain ⟨rfl, rfl⟩ := hrel
      go_wp2
      go_ret
      exact ⟨by simp, Below.refl _ _⟩

end Go.Proofs.YtccmlgnjojdeeaaDoor
