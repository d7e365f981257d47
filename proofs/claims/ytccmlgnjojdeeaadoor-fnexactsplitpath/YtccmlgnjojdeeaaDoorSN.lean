import Derived.Test.YtccmlgnjojdeeaaDoorSS2
import Derived.Laws.RangeString
import Derived.Laws.RangeAny
import Derived.Lib.OthersKept
namespace Go.Proofs.YtccmlgnjojdeeaaDoor
open Go.RowKit

/-- a byte that stands in a name, as the program asks -/
def gdI (x : Nat) : Bool := decide (33 ≤ x ∧ x ≤ 126)
/-- .. as the specification asks -/
def gdS (x : Nat) : Bool := decide (33 ≤ x ∧ x ≤ 126 ∧ x ≠ 47)
/-- every byte of a text is good -/
def allB (g : Nat → Bool) (s : ByteArray) : Bool := s.data.toList.all fun b => g b.toNat

theorem allB_iff (g : Nat → Bool) (s : ByteArray) : allB g s = true ↔ ∀ k (h : k < s.size), g (s[k]'h).toNat = true := by
  unfold allB
  rw [List.all_eq_true]
  constructor
  · intro H k h
    exact H _ (by rw [show s[k]'h = s.data[k]'h from rfl]; exact Array.getElem_mem_toList h)
  · intro H b hb
    obtain ⟨k, hk, rfl⟩ := List.getElem_of_mem hb
    have hk' : k < s.size := by simpa using hk
    have := H k hk'
    rw [show s[k]'hk' = s.data[k]'hk' from rfl] at this
    simpa using this

/-- the code of a name -/
def nmC (g : Nat → Bool) (s : ByteArray) : Int := if s.size = 0 then 12 else if allB g s then (if 8 < s.size then 4 else 0) else 12

theorem nmC_bad {g : Nat → Bool} {s : ByteArray} (k : Nat) (h : k < s.size) (hb : g (s[k]'h).toNat = false) : nmC g s = 12 := by
  have : allB g s = false := by
    by_cases hh : allB g s = true
    · rw [(allB_iff g s).1 hh k h] at hb; cases hb
    · simpa using hh
  simp [nmC, this]

theorem nmC_good {g : Nat → Bool} {s : ByteArray} (h0 : s.size ≠ 0) (H : ∀ k (h : k < s.size), g (s[k]'h).toNat = true) : nmC g s = if 8 < s.size then 4 else 0 := by
  rw [nmC, if_neg h0, if_pos ((allB_iff g s).2 H)]

theorem empty_of {s : ByteArray} (h : s.size ≠ 0) : s.toList.isEmpty = false := by
  rw [ByteArray.toList_eq]
  cases hh : s.data.toList with
  | nil => exfalso; apply h; have := congrArg List.length hh; simpa using this
  | cons a l => rfl

theorem size_ne {s : ByteArray} (h : ¬ s = { data := #[] }) : s.size ≠ 0 := by
  intro e
  apply h
  cases s with
  | mk d => simp [ByteArray.size] at e; subst e; rfl

set_option maxHeartbeats 400000 in
theorem l6NameByte_any (x : Nat) (w : World) (hx : x < 256) :
    Calls Tryd.prog 15 #[.int .u8 x] w fun e w' => e = .returned (.bool (gdS x)) ∧ w = w' := by
  by_cases h1 : 33 ≤ x
  · by_cases h2 : x ≤ 126
    · by_cases h3 : x = 47
      · subst h3
        go_enter Tryd.func15, Tryd.ntmps15
        go_wp2
        go_ret
        exact ⟨rfl, rfl⟩
      · have hg : gdS x = true := by simp [gdS, h1, h2, h3]
        have h47 : ((x : Int) != 47) = true := by simp; omega
        rw [hg]
        go_enter Tryd.func15, Tryd.ntmps15
        go_wp2
        go_ret
        exact ⟨rfl, rfl⟩
    · have hg : gdS x = false := by simp [gdS, h1, h2]
      rw [hg]
      go_enter Tryd.func15, Tryd.ntmps15
      go_wp2
      go_ret
      exact ⟨rfl, rfl⟩
  · have hg : gdS x = false := by simp [gdS, h1]
    rw [hg]
    go_enter Tryd.func15, Tryd.ntmps15
    go_wp2
    go_ret
    exact ⟨rfl, rfl⟩

set_option maxHeartbeats 800000 in
theorem l6NameCode_any (s : ByteArray) (w : World) (hs : s.size ≤ 1000000) :
    Calls Tryd.prog 10 #[.string s] w fun e w' => e = .returned (.int .i64 (nmC gdS s)) ∧ w = w' := by
  by_cases h0 : s = { data := #[] }
  · subst h0
    go_enter Tryd.func10, Tryd.ntmps10
    go_wp2
    go_ret
    exact ⟨rfl, rfl⟩
  · have hz := size_ne h0
    have hem := empty_of hz
    go_enter Tryd.func10, Tryd.ntmps10
    go_wp2
    go_loop [3] (fun i => ∃ j : Nat, j ≤ s.size ∧ i = .int .i64 j ∧ ∀ k (h : k < s.size), k < j → gdS (s[k]'h).toNat = true) (fun i => s.size - (intOf i).toNat)
    case atStart => exact ⟨0, Nat.zero_le _, rfl, fun k _ hk => by omega⟩
    case round =>
      obtain ⟨j, hj, rfl, hg⟩ := hrel
      by_cases hlt : j < s.size
      · have hxl : (s[j]'hlt).toNat < 256 := (s[j]'hlt).toNat_lt
        have HG : Hid (∀ k (h : k < s.size), k < j → gdS (s[k]'h).toNat = true) := hg
        clear hg
        go_wp2_with (go_at_call 15; refine (l6NameByte_any _ _ hxl).mono ?_; rintro e w' ⟨rfl, rfl⟩)
        · have hbad : gdS (s[j]'hlt).toNat = false := by simpa using ‹(!gdS (s[j]'hlt).toNat) = true›
          go_ret
          rw [nmC_bad j hlt hbad]
          exact ⟨rfl, rfl⟩
        · have hok : gdS (s[j]'hlt).toNat = true := by simpa using ‹(!gdS (s[j]'hlt).toNat) = false›
          refine ⟨⟨j + 1, by omega, by go_num, fun k h hk => ?_⟩, ?_⟩
          · by_cases hkj : k = j
            · subst hkj; exact hok
            · exact HG.out k h (by omega)
          · simp [intOf]; omega
      · have hgo := nmC_good hz (fun k h => hg k h (by omega))
        have HC : Hid _ := hgo
        clear hg hgo
        by_cases h8 : 8 < s.size
        · go_wp2
          go_ret
          rw [HC.out, if_pos h8]
          exact ⟨rfl, rfl⟩
        · go_wp2
          go_ret
          rw [HC.out, if_neg h8]
          exact ⟨rfl, rfl⟩

theorem iterPos_iter (w : World) (s : ByteArray) (pos : Nat) : (w.iter s pos).iterPos w.heap.size = pos := by
  simp [World.iterPos, World.iter_heap]

theorem run_next_high (w : World) (s : ByteArray) (pos : Nat) (ty : TypeId) (h : pos < s.size) :
    (Instr.next (.pointer (some ⟨w.heap.size, 0, none⟩)) true ty).run Tryd.prog (w.iter s pos) = .ok (.tuple #[.bool true, .int .i64 pos, .int .i32 (Utf8.decode s pos).1]) (w.iter s (pos + (Utf8.decode s pos).2)) := by
  rw [Lib.run_next_any_at (w.iter s pos) w.heap.size s pos ty (World.iter_heap w s pos) h]
  congr 1
  exact World.iter_set w s pos _

set_option maxHeartbeats 800000 in
theorem checkName_any (s : ByteArray) (w : World) (hs : s.size ≤ 1000000) :
    Calls Tryd.prog 13 #[.string s] w fun e w' => e = .returned (.int .i64 (nmC gdI s)) ∧ Below w.heap.size w w' := by
  by_cases h0 : s = { data := #[] }
  · subst h0
    go_enter Tryd.func13, Tryd.ntmps13
    go_wp2
    go_ret
    exact ⟨rfl, Below.refl _ _⟩
  · have hz := size_ne h0
    have hem := empty_of hz
    go_enter Tryd.func13, Tryd.ntmps13
    go_wp2
    go_loopw [] (fun wr => ∃ pos : Nat, pos ≤ s.size ∧ wr = w.iter s pos ∧ ∀ k (h : k < s.size), k < pos → gdI (s[k]'h).toNat = true) (fun wr => s.size - wr.iterPos w.heap.size)
    case atStart => exact ⟨0, Nat.zero_le _, rfl, fun k _ hk => by omega⟩
    case round =>
      obtain ⟨pos, hp, rfl, hg⟩ := hrel
      have hbw : Below w.heap.size w (w.iter s pos) := (Below.refl _ _).alloc (Nat.le_refl _) _
      have hpos0 := iterPos_iter w s pos
      by_cases hlt : pos < s.size
      · have HG : Hid (∀ k (h : k < s.size), k < pos → gdI (s[k]'h).toNat = true) := hg
        clear hg
        by_cases ha : (s[pos]'hlt).toNat < 128
        · have hnx : ∀ ty, (Instr.next (.pointer (some ⟨w.heap.size, 0, none⟩)) true ty).run Tryd.prog (w.iter s pos) = _ := fun ty => run_next_ascii w s pos ty hlt ha
          have hpos1 := iterPos_iter w s (pos + 1)
          by_cases h1 : 33 ≤ (s[pos]'hlt).toNat
          · by_cases h2 : (s[pos]'hlt).toNat ≤ 126
            · have hok : gdI (s[pos]'hlt).toNat = true := by simp [gdI, h1, h2]
              go_wp2
              go_roundw
              case rel =>
                refine ⟨pos + 1, by omega, rfl, fun k h hk => ?_⟩
                by_cases hkj : k = pos
                · subst hkj; exact hok
                · exact HG.out k h (by omega)
              case measure => rw [hpos0, hpos1]; omega
            · have hbad : gdI (s[pos]'hlt).toNat = false := by simp [gdI, h2]
              have HC : Hid (nmC gdI s = 12) := nmC_bad pos hlt hbad
              go_wp2
              go_ret
              rw [HC.out]
              exact ⟨rfl, (Below.refl _ _).alloc (Nat.le_refl _) _⟩
          · have hbad : gdI (s[pos]'hlt).toNat = false := by simp [gdI, h1]
            have HC : Hid (nmC gdI s = 12) := nmC_bad pos hlt hbad
            go_wp2
            go_ret
            rw [HC.out]
            exact ⟨rfl, (Below.refl _ _).alloc (Nat.le_refl _) _⟩
        · have hnx : ∀ ty, (Instr.next (.pointer (some ⟨w.heap.size, 0, none⟩)) true ty).run Tryd.prog (w.iter s pos) = _ := fun ty => run_next_high w s pos ty hlt
          have hd := (decode_high s pos hlt (by omega)).1
          have hd2 := decode_le s pos
          have hbad : gdI (s[pos]'hlt).toNat = false := by simp [gdI]; omega
          have HC : Hid (nmC gdI s = 12) := nmC_bad pos hlt hbad
          generalize (Utf8.decode s pos).1 = rn at hnx hd hd2
          go_wp2
          go_ret
          rw [HC.out]
          exact ⟨rfl, (Below.refl _ _).alloc (Nat.le_refl _) _⟩
      · have hnx : ∀ ty, (Instr.next (.pointer (some ⟨w.heap.size, 0, none⟩)) true ty).run Tryd.prog (w.iter s pos) = _ := fun ty => run_next_end w s pos ty hlt
        have hgo := nmC_good hz (fun k h => hg k h (by omega))
        have HC : Hid _ := hgo
        clear hg hgo
        by_cases h8 : 8 < s.size
        · go_wp2
          go_ret
          rw [HC.out, if_pos h8]
          exact ⟨rfl, hbw⟩
        · go_wp2
          go_ret
          rw [HC.out, if_neg h8]
          exact ⟨rfl, hbw⟩

end Go.Proofs.YtccmlgnjojdeeaaDoor
