import Derived.Test.YtccmlgnjojdeeaaDoorSP1
namespace Go.Proofs.YtccmlgnjojdeeaaDoor
open Go.RowKit

theorem split_any (s : ByteArray) (m : Int) (w : World) (hs : s.size ≤ 1000000) (hm : w.cell? ⟨0, 0, none⟩ = some (.int .i64 m)) :
    Calls Tryd.prog 12 #[.string s, .string { data := #[47] }] w fun e w' => ∃ v, e = .returned v ∧ SOwn w.heap.size w'.heap.size w' v (cut s) ∧ Below w.heap.size w w' := by
  refine (Tryd.strings_Split s { data := #[47] } m w (by omega) hm (by decide)).mono fun e w' hq => ?_
  obtain ⟨rfl, rfl⟩ := hq
  have hl : Lib.countB s { data := #[47] } + 1 = (cut s).length := (Lib.splitB_all sl (by decide) 0 _ s rfl).symm
  exact ⟨_, rfl, (SOwn.made w (cut s) _ hl).wider (Nat.le_refl _) (by simp), (Below.refl _ _).alloc (Nat.le_refl _) _⟩

set_option maxHeartbeats 1600000 in
theorem implSplit_any (s : ByteArray) (m : Int) (w : World) (hs : s.size ≤ 1048576) (hm : w.cell? ⟨0, 0, none⟩ = some (.int .i64 m)) :
    Calls Tryd.prog 5 #[.string s] w fun e w' => ∃ v, e = .returned (.tuple #[v, .int .i64 (spR gdI s).1]) ∧ SOwn w.heap.size w'.heap.size w' v (spR gdI s).2 ∧ Below w.heap.size w w' := by
  by_cases h200 : 200 < s.size
  · have HR : Hid (spR gdI s = (4, [])) := by simp [spR, h200, Hid]
    go_enter Tryd.func5, Tryd.ntmps5
    go_wp2_with fail
    go_ret2
    rw [HR.out]
    exact ⟨.slice none 0 0, rfl, SOwn.nil _ _ _, Below.refl _ _⟩
  · by_cases hp : pf s = true
    · have hp' : Lib.hasPrefix s.data.toList [47] = true := hp
      obtain ⟨hpos, h47⟩ := (pf_iff s).1 hp
      by_cases h1 : s.size = 1
      · have HR : Hid (spR gdI s = (0, [])) := by simp [spR, h1, hp, Hid]
        obtain rfl := one_sl hp h1
        go_enter Tryd.func5, Tryd.ntmps5
        go_wp2_with (go_at_call 11; refine (Tryd.strings_HasPrefix _ _ _).mono ?_; rintro e w' ⟨rfl, hw'⟩; rw [hw'])
        go_ret2
        rw [HR.out]
        exact ⟨.slice none 0 0, rfl, SOwn.nil _ _ _, Below.refl _ _⟩
      · have hno := not_one_sl h1
        have hsz : (s.extract 1 s.size).size = s.size - 1 := by rw [ByteArray.size_extract]; omega
        obtain ⟨hlen, hlen1, hpx⟩ := cut_pieces _ (s.extract 1 s.size) (Nat.le_refl _)
        have HP : Hid (∀ x ∈ cut (s.extract 1 s.size), x.size ≤ (s.extract 1 s.size).size ∧ ∀ k (h : k < x.size), (x[k]'h).toNat ≠ 47) := hpx
        have HR : Hid (spR gdI s = if nmsC gdI (cut (s.extract 1 s.size)) = 0 then (if 16 < (cut (s.extract 1 s.size)).length then (4, []) else (0, cut (s.extract 1 s.size))) else (nmsC gdI (cut (s.extract 1 s.size)), [])) := by simp [spR, h200, hp, h1, Hid]
        clear hpx
        go_enter Tryd.func5, Tryd.ntmps5
        go_wp2_with (first
          | (go_at_call 11; refine (Tryd.strings_HasPrefix _ _ _).mono ?_; rintro e w' ⟨rfl, hw'⟩; rw [hw'])
          | (go_at_call 12; refine (split_any (s.extract 1 s.size) m _ (by omega) hm).mono ?_))
        rintro e w1 ⟨v, rfl, hown, hb⟩
        have HO : Hid (SOwn w.heap.size w1.heap.size w1 v (cut (s.extract 1 s.size))) := hown
        have HB : Hid (Below w.heap.size w w1) := hb
        generalize cut (s.extract 1 s.size) = zs at *
        obtain ⟨a, cap, rfl, hc⟩ := hown
        obtain ⟨b, off, rfl, g1, g2, g3, hcell⟩ := hc (by omega)
        clear hc hb g1 g2
        go_wp2
        go_loopw [21] (fun i wr => ∃ j : Nat, j ≤ zs.length ∧ i = .int .i64 j ∧ Below w1.heap.size w1 wr ∧ ∀ i, i < j → nmC gdI (txt zs i) = 0) (fun i _ => zs.length - (intOf i).toNat)
        case atStart => exact ⟨0, Nat.zero_le _, rfl, Below.refl _ _, fun i hi => by omega⟩
        case round =>
          obtain ⟨j, hj, rfl, hbw, hg⟩ := hrel
          by_cases hlt : j < zs.length
          · have hc1 : wr.cell? ⟨b, off + j, none⟩ = some (.string (txt zs j)) := (hbw.cell (p := ⟨b, off + j, none⟩) g3).trans (hcell j hlt).1
            have hxs := (HP.out _ (txt_mem zs j hlt)).1
            have HG : Hid (∀ i, i < j → nmC gdI (txt zs i) = 0) := hg
            have HW : Hid (Below w1.heap.size w1 wr) := hbw
            have hi : (j : Int) < (zs.length : Int) := by omega
            clear hcell hg hbw
            by_cases h0 : nmC gdI (txt zs j) = 0
            · go_wp2_with (go_at_call 13; refine (checkName_any _ _ (by omega)).mono ?_; rw [h0]; rintro e w2 ⟨rfl, hb2⟩)
              go_roundw
              case rel =>
                refine ⟨j + 1, by omega, by go_num, HW.out.trans (hb2.mono HW.out.size), fun i hi => ?_⟩
                by_cases e : i = j
                · subst e; exact h0
                · exact HG.out i (by omega)
              case measure => simp [intOf]; omega
            · have hb0 : (nmC gdI (txt zs j) != 0) = true := by simpa using h0
              have HC : Hid (nmsC gdI zs = nmC gdI (txt zs j)) := nmsC_bad gdI zs j hlt HG.out h0
              go_wp2_with (go_at_call 13; refine (checkName_any _ _ (by omega)).mono ?_; rintro e w2 ⟨rfl, hb2⟩)
              go_ret2
              rw [HR.out, HC.out, if_neg h0]
              exact ⟨.slice none 0 0, rfl, SOwn.nil _ _ _, HB.out.trans ((HW.out.trans (hb2.mono HW.out.size)).mono HB.out.size)⟩
          · have HC : Hid (nmsC gdI zs = 0) := nmsC_good gdI zs fun i hi => hg i (by omega)
            have HW : Hid (Below w1.heap.size w1 wr) := hbw
            clear hcell hg hbw
            by_cases h16 : 16 < zs.length
            · go_wp2
              go_ret2
              rw [HR.out, HC.out, if_pos rfl, if_pos h16]
              exact ⟨.slice none 0 0, rfl, SOwn.nil _ _ _, HB.out.trans (HW.out.mono HB.out.size)⟩
            · go_wp2
              go_ret2
              rw [HR.out, HC.out, if_pos rfl, if_neg h16]
              exact ⟨.slice (some ⟨b, off, none⟩) zs.length cap, rfl, (HO.out.below HW.out).wider (Nat.le_refl _) HW.out.size, HB.out.trans (HW.out.mono HB.out.size)⟩
    · have hp' : Lib.hasPrefix s.data.toList [47] = false := by simpa [pf] using hp
      have HR : Hid (spR gdI s = (12, [])) := by simp [spR, h200, hp, Hid]
      go_enter Tryd.func5, Tryd.ntmps5
      go_wp2_with (go_at_call 11; refine (Tryd.strings_HasPrefix _ _ _).mono ?_; rintro e w' ⟨rfl, hw'⟩; rw [hw'])
      go_ret2
      rw [HR.out]
      exact ⟨.slice none 0 0, rfl, SOwn.nil _ _ _, Below.refl _ _⟩

end Go.Proofs.YtccmlgnjojdeeaaDoor
