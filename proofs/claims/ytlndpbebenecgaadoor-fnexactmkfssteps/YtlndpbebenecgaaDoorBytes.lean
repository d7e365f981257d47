import Derived.Test.YtlndpbebenecgaaDoorRows
import Derived.WalkKit
import Derived.WalkSpells
import Derived.WalkLawsBesides
import Derived.Deep.QuietTactic
import Derived.BigQuiet
import Derived.Deep.OwnRows
namespace Go.Proofs.YtlndpbebenecgaaDoor
open Go.RowKit

theorem info8 : (Tryd.prog.info? 5).map (fun i => (i.zero, i.size, i.bytes)) = some (some (.int .u8 0), 1, 1) := by kernel_rfl

/-- the cells that hold the bytes zs -/
def u8s (zs : List Int) : Array Value := (zs.map (Value.int .u8)).toArray

/-- the slice value v reads in w as the bytes zs -/
structure Bts (w : World) (v : Value) (zs : List Int) : Prop where
  small : ∀ i, 0 ≤ zs.getD i 0 ∧ zs.getD i 0 < 256
  shape : ∃ a cap, v = .slice a zs.length cap ∧ (0 < zs.length → ∃ b off, a = some ⟨b, off, none⟩ ∧ ∀ i, i < zs.length → w.cell? ⟨b, off + i, none⟩ = some (.int .u8 (zs.getD i 0)))

theorem Bts.kept {w w' : World} {v : Value} {zs : List Int} (h : Bts w v zs) (k : ∀ b o, b < w.heap.size → w'.cell? ⟨b, o, none⟩ = w.cell? ⟨b, o, none⟩) : Bts w' v zs := by
  obtain ⟨a, cap, hv, hc⟩ := h.shape
  refine ⟨h.small, a, cap, hv, fun hp => ?_⟩
  obtain ⟨b, off, ha, hcell⟩ := hc hp
  exact ⟨b, off, ha, fun i hi => (k b _ (World.block_lt_of_cell? _ _ (hcell i hi))).trans (hcell i hi)⟩

theorem Bts.below {w w' : World} {v : Value} {zs : List Int} (h : Bts w v zs) (k : Below w.heap.size w w') : Bts w' v zs :=
  h.kept fun b o hb => k.cell (p := ⟨b, o, none⟩) hb

theorem Bts.alloc {w : World} {v : Value} {zs : List Int} (h : Bts w v zs) (o : Obj) : Bts (w.alloc o) v zs :=
  h.kept fun _ _ hb => World.cell?_alloc_past _ _ _ hb

/-- a new row of the bytes zs -/
theorem Bts.made (w : World) (zs : List Int) (h : ∀ i, 0 ≤ zs.getD i 0 ∧ zs.getD i 0 < 256) : Bts (w.alloc (.cells (u8s zs) 5)) (.slice (some ⟨w.heap.size, 0, none⟩) zs.length zs.length) zs := by
  refine ⟨h, _, _, rfl, fun _ => ⟨_, _, rfl, fun i hi => ?_⟩⟩
  rw [World.cell?_alloc_at _ _ _ _ rfl]
  simp [u8s, hi]

theorem Bts.made_at (w : World) (zs : List Int) (h : ∀ i, 0 ≤ zs.getD i 0 ∧ zs.getD i 0 < 256) (g : Nat) (hg : g = w.heap.size) : Bts (w.alloc (.cells (u8s zs) 5)) (.slice (some ⟨g, 0, none⟩) zs.length zs.length) zs := by
  subst hg; exact Bts.made w zs h

/-- the first k bytes copied, the rest zero -/
def part8 (zs : List Int) (k : Nat) : Array Value := u8s (zs.take k ++ List.replicate (zs.length - k) 0)

theorem part8_zero (zs : List Int) : madeCells #[.int .u8 0] zs.length = part8 zs 0 := by
  apply Array.toList_inj.1
  rw [toList_madeCells_one]
  simp [part8, u8s]

theorem part8_end (zs : List Int) : part8 zs zs.length = u8s zs := by simp [part8]

theorem part8_at (zs : List Int) (k j : Nat) (hk : k ≤ zs.length) : (part8 zs k)[j]? = if j < k then some (.int .u8 (zs.getD j 0)) else if j < zs.length then some (.int .u8 0) else none := by
  simp only [part8, u8s, List.getElem?_toArray, List.getElem?_map, List.getElem?_append, List.length_take, List.getElem?_replicate, List.getElem?_take]
  by_cases hj : j < k
  · rw [if_pos (show j < min k zs.length by omega), if_pos hj, if_pos hj]
    simp [show j < zs.length by omega]
  · rw [if_neg (show ¬ j < min k zs.length by omega), if_neg hj]
    by_cases hl : j < zs.length
    · rw [if_pos hl, if_pos (show j - min k zs.length < zs.length - k by omega)]; rfl
    · rw [if_neg hl, if_neg (show ¬ j - min k zs.length < zs.length - k by omega)]; rfl

theorem part8_size (zs : List Int) (k : Nat) (hk : k ≤ zs.length) : (part8 zs k).size = zs.length := by
  simp [part8, u8s]; omega

theorem part8_step (zs : List Int) (k : Nat) (h : k < zs.length) : (part8 zs k).setIfInBounds k (.int .u8 (zs.getD k 0)) = part8 zs (k + 1) := by
  apply Array.ext_getElem?
  intro j
  rw [Array.getElem?_setIfInBounds, part8_at zs k j (by omega), part8_at zs (k + 1) j (by omega), part8_size zs k (by omega)]
  by_cases hj : k = j
  · subst hj
    simp [h]
  · rw [if_neg hj]
    by_cases hlt : j < k
    · rw [if_pos hlt, if_pos (by omega)]
    · rw [if_neg hlt, if_neg (show ¬ j < k + 1 by omega)]

theorem part8_get (zs : List Int) (k : Nat) (h : k < zs.length) : (part8 zs k)[k]? = some (.int .u8 0) := by
  rw [part8_at zs k k (by omega), if_neg (by omega), if_pos h]

set_option maxHeartbeats 400000 in
theorem toByteS_any (v : Value) (zs : List Int) (w : World) (hv : Bts w v zs) (hn : zs.length ≤ 281474976710656) :
    Calls Tryd.prog 35 #[v] w fun e w' => e = .returned (.slice (some ⟨w.heap.size, 0, none⟩) zs.length zs.length) ∧ w.alloc (.cells (u8s zs) 5) = w' := by
  obtain ⟨a, cap, rfl, hc⟩ := hv.shape
  have hmk := run_make_row' (P := Tryd.prog) 32 5 (.int .u8 0) 1 Tryd.underlying32 info8 rfl .i64 .i64 zs.length (by omega) (by omega)
  rw [part8_zero] at hmk
  have HE : Hid (part8 zs zs.length = u8s zs) := part8_end zs
  by_cases hz : 0 < zs.length
  · obtain ⟨b, off, rfl, hcell⟩ := hc hz
    have hb : b < w.heap.size := World.block_lt_of_cell? _ _ (hcell 0 hz)
    clear hc
    go_enter Tryd.func35, Tryd.ntmps35
    go_wp2
    go_loopw [4] (fun i wr => ∃ k : Nat, k ≤ zs.length ∧ i = .int .i64 k ∧ wr = w.alloc (.cells (part8 zs k) 5)) (fun i _ => zs.length - (intOf i).toNat)
    case atStart => exact ⟨0, Nat.zero_le _, rfl, rfl⟩
    case round =>
      obtain ⟨k, hk, rfl, rfl⟩ := hrel
      clear hmk
      by_cases hlt : k < zs.length
      · have g1 : (w.alloc (.cells (part8 zs k) 5)).cell? ⟨b, off + k, none⟩ = some (.int .u8 (zs.getD k 0)) := (World.cell?_alloc_past _ _ _ hb).trans (hcell k hlt)
        have g2 : (w.alloc (.cells (part8 zs k) 5)).cell? ⟨w.heap.size, k, none⟩ = some (.int .u8 0) := (World.cell?_alloc_at _ _ _ _ rfl).trans (part8_get zs k hlt)
        have HS : Hid ((part8 zs k).setIfInBounds k (.int .u8 (zs.getD k 0)) = part8 zs (k + 1)) := part8_step zs k hlt
        clear hcell
        go_wp2
        go_roundw
        case rel => exact ⟨k + 1, by omega, by go_num, by rw [← HS.out]; simp [hlt]⟩
        case measure => simp [intOf]; omega
      · have hke : k = zs.length := by omega
        go_wp2
        go_ret
        exact ⟨rfl, by rw [HE.out]⟩
  · have hz0 : zs = [] := List.eq_nil_of_length_eq_zero (by omega)
    subst hz0
    have hmk0 : ∀ w : World, (Instr.makeSlice 32 (.int .i64 0) (.int .i64 0)).run Tryd.prog w = .ok (.slice (some ⟨w.heap.size, 0, none⟩) 0 0) (w.alloc (.cells (part8 [] 0) 5)) := hmk
    clear hc hmk
    go_enter Tryd.func35, Tryd.ntmps35
    go_wp2
    go_loopw [4] (fun i wr => i = .int .i64 0 ∧ wr = w.alloc (.cells (part8 [] 0) 5)) (fun _ _ => 0)
    case atStart => exact ⟨rfl, rfl⟩
    case round =>
      obtain ⟨rfl, rfl⟩ := hrel
      clear hmk0
      go_wp2
      go_ret
      exact ⟨rfl, rfl⟩

set_option maxHeartbeats 400000 in
theorem eqByteS_same (v v' : Value) (zs : List Int) (w : World) (hv : Bts w v zs) (hv' : Bts w v' zs) (hn : zs.length ≤ 281474976710656) :
    Calls Tryd.prog 17 #[v, v'] w fun e w' => e = .returned (.bool true) ∧ ∃ n, w' = w.drewN n := by
  obtain ⟨a, cap, rfl, hc⟩ := hv.shape
  obtain ⟨a', cap', rfl, hc'⟩ := hv'.shape
  by_cases hz : 0 < zs.length
  · obtain ⟨b, off, rfl, hcell⟩ := hc hz
    obtain ⟨b', off', rfl, hcell'⟩ := hc' hz
    have heq : ((zs.length : Int) != (zs.length : Int)) = false := by simp
    clear hc hc'
    go_enter Tryd.func17, Tryd.ntmps17
    go_wp2
    go_loopw [5] (fun i wr => ∃ k : Nat, k ≤ zs.length ∧ i = .int .i64 k ∧ ∃ n, wr = w.drewN n) (fun i _ => zs.length - (intOf i).toNat)
    case atStart => exact ⟨0, Nat.zero_le _, rfl, 0, rfl⟩
    case round =>
      obtain ⟨k, hk, rfl, n, rfl⟩ := hrel
      by_cases hlt : k < zs.length
      · have g1 : w.cell? ⟨b, off + k, none⟩ = some (.int .u8 (zs.getD k 0)) := hcell k hlt
        have g2 : w.cell? ⟨b', off' + k, none⟩ = some (.int .u8 (zs.getD k 0)) := hcell' k hlt
        have hi : (k : Int) < (zs.length : Int) := by omega
        clear hcell hcell'
        go_wp2
        go_quiet (fail)
        go_wp2
        go_roundw
        case rel => exact ⟨k + 1, by omega, by go_num, _, rfl⟩
        case measure => simp [intOf]; omega
      · go_wp2
        go_ret
        exact ⟨rfl, _, rfl⟩
  · have hz0 : zs = [] := List.eq_nil_of_length_eq_zero (by omega)
    subst hz0
    clear hc hc'
    go_enter Tryd.func17, Tryd.ntmps17
    go_wp2
    go_loopw [5] (fun i wr => i = .int .i64 0 ∧ wr = w) (fun _ _ => 0)
    case atStart => exact ⟨rfl, rfl⟩
    case round =>
      obtain ⟨rfl, rfl⟩ := hrel
      go_wp2
      go_ret
      exact ⟨rfl, 0, rfl⟩
end Go.Proofs.YtlndpbebenecgaaDoor
