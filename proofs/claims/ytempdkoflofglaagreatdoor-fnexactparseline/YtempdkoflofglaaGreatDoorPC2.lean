import Derived.Test.YtempdkoflofglaaGreatDoorPC
namespace Go.Proofs.YtempdkoflofglaaGreatDoor
open Go.RowKit

theorem empty_of {s : ByteArray} (h : s.size ≠ 0) : s.toList.isEmpty = false := by
  rw [ByteArray.toList_eq]
  cases hh : s.data.toList with
  | nil => exfalso; apply h; have := congrArg List.length hh; simpa using this
  | cons a l => rfl

theorem size_ne {s : ByteArray} (h : ¬ s = { data := #[] }) : s.size ≠ 0 := by
  intro e
  apply h
  cases s with
  | mk d => simp [ByteArray.size] at e; subst e; rfl

theorem iterPos_iter (w : World) (s : ByteArray) (pos : Nat) : (w.iter s pos).iterPos w.heap.size = pos := by
  simp [World.iterPos, World.iter_heap]

theorem run_next_high (w : World) (s : ByteArray) (pos : Nat) (ty : TypeId) (h : pos < s.size) :
    (Instr.next (.pointer (some ⟨w.heap.size, 0, none⟩)) true ty).run Tryz.prog (w.iter s pos) = .ok (.tuple #[.bool true, .int .i64 pos, .int .i32 (Utf8.decode s pos).1]) (w.iter s (pos + (Utf8.decode s pos).2)) := by
  rw [Lib.run_next_any_at (w.iter s pos) w.heap.size s pos ty (World.iter_heap w s pos) h]
  congr 1
  exact World.iter_set w s pos _


set_option maxHeartbeats 1600000 in
theorem l6Cut_any (s : ByteArray) (w : World) (hs : s.size ≤ 1000000) :
    Calls Tryz.prog 7 #[.string s, .int .u8 32] w fun e w' => ∃ v, e = .returned v ∧ SOwn w.heap.size w'.heap.size w' v (cut s) ∧ Below w.heap.size w w' := by
  go_enter Tryz.func7, Tryz.ntmps7
  go_wp2
  go_loopw [5, 6, 7] (fun out fr i wr => ∃ (a j : Nat) (zs : List ByteArray), a ≤ j ∧ j ≤ s.size ∧ i = .int .i64 j ∧ fr = .int .i64 a ∧ zs.length ≤ a ∧ SRow w.heap.size wr out zs ∧ Below w.heap.size w wr ∧ Hid (zs ++ cut (s.extract a s.size) = cut s) ∧ Hid (∀ k (h : k < s.size), a ≤ k → k < j → (s[k]'h).toNat ≠ 32)) (fun _ _ i _ => s.size - (intOf i).toNat)
  case atStart => exact ⟨0, 0, [], Nat.le_refl _, Nat.zero_le _, rfl, rfl, Nat.le_refl _, SRow.lit _ _ (Nat.le_refl _) _ rfl, (Below.refl _ _).alloc (Nat.le_refl _) _, by rw [ext_all]; rfl, fun k _ h1 h2 => by omega⟩
  case round =>
    obtain ⟨a, j, zs, haj, hj, rfl, rfl, hl, hown, hb, HC, HN⟩ := hrel
    have hsz := hb.size
    by_cases hlt : j < s.size
    · by_cases h32 : (s[j]'hlt).toNat = 32
      · have HA : Hid _ := cut_at s a j haj hlt h32 HN.out
        have hfl : zs.length < 4294967296 := by omega
        have hi32 : ((s[j]'hlt).toNat : Int) = 32 := by omega
        go_wp2_with (first | (at_builtin; refine wpList_appendS rfl _ _ rfl (s.extract a j) hown rfl rfl hfl hsz ?_; intro v' w1 hown1 hbel1 hsz1 hgr1) | go_in)
        go_roundw
        case rel =>
          refine ⟨j + 1, j + 1, zs ++ [s.extract a j], Nat.le_refl _, by omega, by go_num, by go_num, by simp; omega, hown1, hb.trans hbel1, ?_, fun k _ h1 h2 => by omega⟩
          rw [← HC.out, HA.out]; simp [Hid]
        case measure => simp [intOf]; omega
      · have hi32 : (((s[j]'hlt).toNat : Int) == 32) = false := by simp; omega
        go_wp2
        go_roundw
        case rel =>
          refine ⟨a, j + 1, zs, by omega, by omega, by go_num, rfl, hl, hown, hb, HC, fun k h h1 h2 => ?_⟩
          by_cases e : k = j
          · subst e; exact h32
          · exact HN.out k h h1 (by omega)
        case measure => simp [intOf]; omega
    · have HA : Hid _ := cut_last s a (fun k h h1 => HN.out k h h1 (by omega))
      have hfl : zs.length < 4294967296 := by omega
      have has : (a : Int) ≤ (s.size : Int) := by omega
      go_wp2_with (first | (at_builtin; refine wpList_appendS rfl _ _ rfl (s.extract a s.size) hown rfl rfl hfl hsz ?_; intro v' w1 hown1 hbel1 hsz1 hgr1) | go_in)
      go_ret
      have e : zs ++ [s.extract a s.size] = cut s := by rw [← HC.out, HA.out]
      rw [e] at hown1
      exact ⟨v', rfl, hown1.own, hb.trans hbel1⟩

end Go.Proofs.YtempdkoflofglaaGreatDoor
