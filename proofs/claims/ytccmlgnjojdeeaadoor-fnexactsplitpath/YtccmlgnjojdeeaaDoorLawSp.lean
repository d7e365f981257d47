import Derived.Test.YtccmlgnjojdeeaaDoorSP2
namespace Go.Proofs.YtccmlgnjojdeeaaDoor
open Go.RowKit

set_option maxHeartbeats 4000000 in
theorem splitPath_all (s : ByteArray) (m : Int) (w : World) (hm : w.cell? ⟨0, 0, none⟩ = some (.int .i64 m)) :
    Calls Tryd.prog 3 #[.string s] w fun e w' => e = .returned (.bool true) ∧ Below w.heap.size w w' := by
  by_cases hs : 1048576 < s.size
  · go_enter Tryd.func3, Tryd.ntmps3
    go_wp2_with fail
    go_ret
    exact ⟨rfl, Below.refl _ _⟩
  · have hs' : s.size ≤ 1048576 := by omega
    have c1 := specSplit_any s w hs'
    rw [spR_same s] at c1
    have hl := spR_len gdI s
    have hne : ((spR gdI s).1 != (spR gdI s).1) = false := by simp
    have hmb : 0 < w.heap.size := World.block_lt_of_cell? _ _ hm
    have HI : Hid (∀ w : World, w.cell? ⟨0, 0, none⟩ = some (.int .i64 m) → Calls Tryd.prog 5 #[.string s] w fun e w' => ∃ v, e = .returned (.tuple #[v, .int .i64 (spR gdI s).1]) ∧ SOwn w.heap.size w'.heap.size w' v (spR gdI s).2 ∧ Below w.heap.size w w') := fun w hm => implSplit_any s m w hs' hm
    generalize (spR gdI s).1 = c at *
    generalize (spR gdI s).2 = zs at *
    go_enter Tryd.func3, Tryd.ntmps3
    go_wp2_with (go_at_call 4; refine c1.mono ?_)
    rintro e w1 ⟨v1, rfl, ho1, hb1⟩
    have hm1 := (hb1.cell (p := ⟨0, 0, none⟩) hmb).trans hm
    have hs1 := hb1.size
    clear c1
    go_wp2_with (go_at_call 5; refine (HI.out w1 hm1).mono ?_)
    rintro e w2 ⟨v2, rfl, ho2, hb2⟩
    have hs2 := hb2.size
    have ho1b := ho1.below hb2
    go_wp2_with (go_at_call 6; refine (eqStringS_own v2 v1 zs w2 ho2.rd ho1b.rd (by omega)).mono ?_)
    rintro e w3 ⟨rfl, hb3⟩
    have hs3 := hb3.size
    have ho1c := ho1b.below hb3
    have ho2c := ho2.below hb3
    go_wp2_with (go_at_call 7; refine (markStringS_any _ _ v2 zs 1 w3 ho2c (Nat.le_refl _) (by omega)).mono ?_)
    rintro e w4 ⟨rfl, ho4, hu4⟩
    have hs4 := hu4.size
    have ho1d := ho1c.upd hu4 (.inl (Nat.le_refl _))
    go_wp2_with (go_at_call 8; refine (heldStringS_any v2 1 zs.length w4 ho4.rd (Nat.le_refl _) (by omega)).mono ?_)
    rintro e w5 ⟨rfl, hb5⟩
    have hs5 := hb5.size
    have ho1e := ho1d.below hb5
    have hqq : ((1 + (zs.length : Int)) != (1 + (zs.length : Int))) = false := by simp
    have hB4 : Below w1.heap.size w1 w4 := (hb2.trans (hb3.mono hs2)).trans (hu4.below (Nat.le_refl _) (by omega))
    have hB5 : Below w1.heap.size w1 w5 := hB4.trans (hb5.mono (by omega))
    have hBw : Below w.heap.size w w5 := hb1.trans (hB5.mono hs1)
    have hm5 := (hBw.cell (p := ⟨0, 0, none⟩) hmb).trans hm
    go_wp2_with (go_at_call 5; refine (HI.out w5 hm5).mono ?_)
    rintro e w6 ⟨v6, rfl, ho6, hb6⟩
    have ho1f := ho1e.below hb6
    go_wp2_with (go_at_call 6; refine (eqStringS_own v6 v1 zs w6 ho6.rd ho1f.rd (by omega)).mono ?_)
    rintro e w7 ⟨rfl, hb7⟩
    go_wp2_with fail
    go_ret
    exact ⟨rfl, hBw.trans ((hb6.trans (hb7.mono hb6.size)).mono (by omega))⟩

end Go.Proofs.YtccmlgnjojdeeaaDoor
