import Derived.Test.YtbadedhliplkeaaRd2
namespace Go.Proofs.Ytbadedhliplkeaa
open Go.RowKit

theorem Row8.own1 {base : Nat} {w : World} {v : Value} {zs : List Int} (h : Row8 base w v zs) (hz : ∀ i, 0 ≤ zs.getD i 0 ∧ zs.getD i 0 < 256) (hb : base < w.heap.size) : ∃ g, base ≤ g ∧ g < w.heap.size ∧ Own8 g (g + 1) w v zs := by
  rcases h.2 with ⟨hv, hn⟩ | ⟨g, cap, cur, hv, hbg, hg, hnc, hcm, hcs, htake⟩
  · refine ⟨base, Nat.le_refl _, hb, hz, Option.none, 0, by rw [hv, hn], fun hp => by omega⟩
  · have hlt : g < w.heap.size := by
      by_cases hh : g < w.heap.size
      · exact hh
      · simp [show w.heap.size ≤ g by omega] at hg
    have hO := h.own hz
    obtain ⟨a', cap', hv', hc⟩ := hO.shape
    refine ⟨g, hbg, hlt, hz, a', cap', hv', fun hp => ?_⟩
    obtain ⟨b, off, ha, h1, h2, h3, h4⟩ := hc hp
    rw [hv] at hv'
    simp only [Value.slice.injEq] at hv'
    rw [← hv'.1] at ha
    simp only [Option.some.injEq, Addr.mk.injEq, and_true] at ha
    obtain ⟨rfl, rfl⟩ := ha
    exact ⟨g, 0, hv'.1.symm, Nat.le_refl _, Nat.lt_succ_self _, h3, h4⟩

theorem take_small {zs : List Int} (h : ∀ i, 0 ≤ zs.getD i 0 ∧ zs.getD i 0 < 256) (k i : Nat) : 0 ≤ (zs.take k).getD i 0 ∧ (zs.take k).getD i 0 < 256 := by
  have := h i
  simp only [List.getD_eq_getElem?_getD, List.getElem?_take] at this ⊢
  split
  · exact this
  · simp

set_option maxHeartbeats 1000000 in
theorem l1Copy_any (v : Value) (zs : List Int) (w : World) (hv : Bts w v zs) (hn : zs.length ≤ 1048576) :
    Calls Try.prog 43 #[v] w fun e w' => ∃ a cap g, e = .returned (.slice a zs.length cap) ∧ w.heap.size ≤ g ∧ g < w'.heap.size ∧ Own8 g (g + 1) w' (.slice a zs.length cap) zs ∧ Below w.heap.size w w' := by
  obtain ⟨a, cap, rfl, hc⟩ := hv.shape
  have hsm := hv.small
  go_enter Try.func43, Try.ntmps43
  go_wp2
  go_loopw [3, 4] (fun u i wr => ∃ k : Nat, k ≤ zs.length ∧ i = .int .i64 k ∧ Row8 w.heap.size wr u (zs.take k) ∧ Below w.heap.size w wr ∧ w.heap.size < wr.heap.size) (fun _ i _ => zs.length - (intOf i).toNat)
  case atStart => exact ⟨0, Nat.zero_le _, rfl, Row8.lit _ _ (Nat.le_refl _) _ rfl, belowA _ _, by simp⟩
  case round =>
    obtain ⟨k, hk, rfl, hown, hbel, hsz⟩ := hrel
    obtain ⟨ua, uc, hua⟩ := hown.shape
    subst hua
    have htl : (zs.take k).length = k := by simp; omega
    have hfl : (zs.take k).length < 140737488355328 := by omega
    have hsz' : w.heap.size ≤ wr.heap.size := by omega
    by_cases hlt : k < zs.length
    · obtain ⟨b, off, rfl, hcell⟩ := hc (by omega)
      have g1 : wr.cell? ⟨b, off + k, none⟩ = some (.int .u8 (zs.getD k 0)) := (hbel.cell (p := ⟨b, off + k, none⟩) (World.block_lt_of_cell? _ _ (hcell k hlt))).trans (hcell k hlt)
      have HG : Hid (zs.take (k + 1) = zs.take k ++ [zs[k]]) := List.take_succ_eq_append_getElem hlt
      clear hc hcell htl
      go_wp2_with (first | (at_builtin; refine wpList_append8 rfl _ _ rfl _ hown rfl rfl hfl hsz' ?_; intro v' w1 hown1 hbel1 hsz1 hgr1) | go_in)
      rw [← HG.out] at hown1
      go_roundw
      case rel => exact ⟨k + 1, by omega, by go_num, hown1, hbel.trans hbel1, by omega⟩
      case measure => simp [intOf]; omega
    · have HT : Hid (zs.take k = zs) := List.take_of_length_le (by omega)
      rw [HT.out] at hown
      have hO := hown.own1 hsm hsz
      rw [HT.out]
      clear hc hown htl
      go_wp2
      go_ret
      obtain ⟨g, e1, e2, e3⟩ := hO
      exact ⟨ua, uc, g, rfl, e1, e2, e3, hbel⟩

set_option maxHeartbeats 1000000 in
theorem l1Block_any (da : Option Addr) (dc q : Nat) (zs : List Int) (w : World) (hv : Bts w (.slice da zs.length dc) zs) (hcap : zs.length ≤ dc) (hq : (q + 1) * 128 ≤ zs.length) (hn : zs.length ≤ 1048576) :
    Calls Try.prog 54 #[.slice da zs.length dc, .int .i64 q] w fun e w' => ∃ a cap g, e = .returned (.slice a 128 cap) ∧ w.heap.size ≤ g ∧ g < w'.heap.size ∧ Own8 g (g + 1) w' (.slice a 128 cap) (blk zs q) ∧ Below w.heap.size w w' := by
  obtain ⟨_, _, he, hc⟩ := hv.shape
  simp only [Value.slice.injEq, true_and] at he
  obtain ⟨rfl, rfl⟩ := he
  obtain ⟨b, off, rfl, hcell⟩ := hc (by omega)
  have hbl := blk_length zs q hq
  have hB : ∀ cap, Bts w (.slice (some ⟨b, off + q * 128, none⟩) 128 cap) (blk zs q) := fun cap => ⟨blk_small zs q hv.small, _, cap, by rw [hbl], fun _ => ⟨b, off + q * 128, rfl, fun i hi => by
    rw [hbl] at hi
    rw [Nat.add_assoc, hcell _ (by omega), blk_get _ _ _ hi]⟩⟩
  have h1 : ((q : Int) + 1) * 128 ≤ dc := by omega
  clear hc hcell
  go_enter Try.func54, Try.ntmps54
  go_wp2_with fail
  have hB1 : Bts w (.slice (some ⟨b, off + q * 128, none⟩) ((q + 1) * 128 - q * 128) (dc - q * 128)) (blk zs q) := by
    rw [show (q + 1) * 128 - q * 128 = 128 by omega]; exact hB _
  refine (l1Copy_any _ (blk zs q) _ hB1 (by omega)).mono ?_
  rintro e w1 ⟨ra, rc, g, rfl, e1, e2, e3, e4⟩
  rw [hbl] at e3 ⊢
  clear hB hB1
  go_wp2
  go_ret
  exact ⟨ra, rc, g, rfl, e1, e2, e3, e4⟩

theorem seenIn_none (zs : List Int) (q : Int) (ps : List (Int × List Int)) (k : Nat) (hk : k ≤ ps.length) (h : ∀ j, k ≤ j → j < ps.length → (ps.getD j (0, [])).1 ≠ q) : seenIn zs q ps = seenIn zs q (ps.take k) := by
  have key : ∀ d, k + d ≤ ps.length → seenIn zs q (ps.take (k + d)) = seenIn zs q (ps.take k) := by
    intro d
    induction d with
    | zero => intro _; rfl
    | succ d ih =>
      intro hd
      rw [show k + (d + 1) = k + d + 1 by omega, seenIn_take zs q ps (k + d) (by omega), if_neg (h (k + d) (by omega) (by omega)), ih (by omega)]
  have := key (ps.length - k) (by omega)
  rw [show k + (ps.length - k) = ps.length by omega, List.take_length] at this
  exact this

set_option maxHeartbeats 2000000 in
theorem specRead_yes (B q : Int) (da ca : Option Addr) (dc cc : Nat) (zs : List Int) (ps : List (Int × List Int)) (w : World) (h : DRead w (.agg #[.int .i64 B, .slice da zs.length dc, .slice ca ps.length cc]) B zs ps) (hcap : zs.length ≤ dc) (hok : dOK B zs ps = true) (hq : 0 ≤ q ∧ q ≤ B - 1) :
    Calls Try.prog 26 #[.agg #[.int .i64 B, .slice da zs.length dc, .slice ca ps.length cc], .int .i64 q] w fun e w' => ∃ a cap g, e = .returned (.tuple #[.slice a 128 cap, .int .i64 0]) ∧ w.heap.size ≤ g ∧ g < w'.heap.size ∧ Own8 g (g + 1) w' (.slice a 128 cap) (seenIn zs q ps) ∧ Below w.heap.size w w' := by
  obtain ⟨hB1, hB2, hzl, hpl, hel⟩ := dOK_out hok
  have hR := h
  obtain ⟨_, _, _, _, he, k1, k2⟩ := h
  simp only [Value.agg.injEq, Array.mk.injEq, List.cons.injEq, Value.slice.injEq, true_and, and_true] at he
  obtain ⟨⟨rfl, rfl⟩, rfl, rfl⟩ := he
  obtain ⟨n, rfl⟩ := Int.eq_ofNat_of_zero_le hq.1
  have hzl' : zs.length ≤ 1048576 := by omega
  have hel' : ∀ i, (ps.getD i (0, [])).2.length ≤ 1048576 := fun i => by
    by_cases hi : i < ps.length
    · have := of_decide_eq_true (hel i hi); omega
    · simp [hi]
  have hb0 := belowA w (.cells #[.int .i64 B, .slice da zs.length dc, .slice ca ps.length cc] 25)
  have hBx := Box3.made w (.int .i64 B) (.slice da zs.length dc) (.slice ca ps.length cc) 25 _ rfl
  have HZL : Hid ((zs.length : Int) = B * 128) := hzl
  have hq1 : (n : Int) < B := by omega
  have hge : ¬ B ≤ (n : Int) := by omega
  obtain ⟨_, _, he, hpc⟩ := k2
  simp only [Value.slice.injEq, true_and] at he
  obtain ⟨rfl, rfl⟩ := he
  clear hzl
  go_enter Try.func26, Try.ntmps26
  go_wp2_with fail
  refine (l1Valid_any B _ zs ps _ (hR.below hb0) hzl' (by omega) hel').mono ?_
  rintro e w1 ⟨rfl, hb1⟩
  have hBx1 := hBx.below hb1
  have hbel1 := hb0.trans (hb1.mono hb0.size)
  obtain ⟨c0, c1, c2⟩ := hBx1.cells
  clear hBx hb1 hb0
  go_wp2_with fail
  go_loop [6] (fun i => ∃ k : Nat, k ≤ ps.length ∧ i = .int .i64 ((k : Int) - 1) ∧ ∀ j, k ≤ j → j < ps.length → (ps.getD j (0, [])).1 ≠ (n : Int)) (fun i => (intOf i + 1).toNat)
  case atStart => exact ⟨ps.length, Nat.le_refl _, rfl, fun j h1 h2 => by omega⟩
  case round =>
    obtain ⟨k, hk, rfl, hnone⟩ := hrel
    have HN : Hid (seenIn zs n ps = seenIn zs n (ps.take k)) := seenIn_none zs n ps k hk hnone
    match k, hk, hnone, HN with
    | 0, hk, hnone, HN =>
      have hlt : ¬ (0 : Int) ≤ ((0 : Nat) : Int) - 1 := by omega
      have k3 := k1.below hbel1
      clear hnone hpc
      go_wp2_with fail
      refine (l1Block_any da dc n zs _ k3 hcap (by have := HZL.out; omega) hzl').mono ?_
      rintro e w2 ⟨ra, rc, g, rfl, e1, e2, e3, e4⟩
      have hbel2 := hbel1.trans (e4.mono hbel1.size)
      have hbs := hbel1.size
      have e5 : Own8 g (g + 1) w2 (.slice ra 128 rc) (seenIn zs n ps) := by rw [HN.out]; exact e3
      clear k3 e3 e4 c0 c1 c2 hBx1
      go_wp2
      go_ret2
      exact ⟨ra, rc, g, rfl, by omega, e2, e5, hbel2⟩
    | k + 1, hk, hnone, HN =>
      rw [show ((k + 1 : Nat) : Int) - 1 = (k : Int) by omega]
      obtain ⟨b, off, rfl, hcell⟩ := hpc (by omega)
      obtain ⟨ea, ec, g1, g2, g3⟩ := hcell k (by omega)
      have hbw := World.block_lt_of_cell? _ _ g1
      have hpk := of_decide_eq_true (hel k (by omega))
      rw [← hbel1.cell (p := ⟨b, off + k * 2, none⟩) hbw] at g1
      rw [← hbel1.cell (p := ⟨b, off + k * 2 + 1, none⟩) hbw] at g2
      have g4 := g3.below hbel1
      have HT : Hid (seenIn zs n (ps.take (k + 1)) = if (ps.getD k (0, [])).1 = n then (ps.getD k (0, [])).2 else seenIn zs n (ps.take k)) := seenIn_take zs n ps k (by omega)
      have HNo : Hid ((ps.getD k (0, [])).1 ≠ (n : Int) → ∀ j, k ≤ j → j < ps.length → (ps.getD j (0, [])).1 ≠ (n : Int)) := fun hne j h1 h2 => by
        by_cases hjk : j = k
        · rw [hjk]; exact hne
        · exact hnone j (by omega) h2
      clear hcell g3 hnone
      generalize ps.getD k (0, []) = p at g1 g2 g4 hpk HT HNo
      obtain ⟨r, ds⟩ := p
      simp only at g1 g2 g4 hpk HT HNo
      obtain ⟨-, -, hdl⟩ := hpk
      rw [hdl] at g2 g4
      by_cases hr : r = n
      · subst hr
        rw [if_pos rfl] at HT
        have heq : ((n : Int) == (n : Int)) = true := by simp
        clear HNo hpc
        go_wp2_with fail
        refine (l1Copy_any _ ds _ g4 (by omega)).mono ?_
        rintro e w2 ⟨ra, rc, g, rfl, e1, e2, e3, e4⟩
        have hbel2 := hbel1.trans (e4.mono hbel1.size)
        have hbs := hbel1.size
        rw [hdl] at e3 ⊢
        have e5 : Own8 g (g + 1) w2 (.slice ra 128 rc) (seenIn zs n ps) := by rw [HN.out, HT.out]; exact e3
        clear g1 g2 g4 e3 e4 c0 c1 c2 hBx1 hdl
        go_wp2
        go_ret2
        exact ⟨ra, rc, g, rfl, by omega, e2, e5, hbel2⟩
      · have hne : (r == (n : Int)) = false := by simpa using hr
        have hno := HNo.out hr
        clear HNo hr hpc g4 hdl
        go_wp2
        go_round
        case rel => exact ⟨k, by omega, by go_num, hno⟩
        case measure => simp [intOf]

/-- what DevRead answers -/
def rdBytes (B q : Int) (zs : List Int) (ps : List (Int × List Int)) : List Int := if dOK B zs ps then (if inB q 0 (B - 1) then seenIn zs q ps else []) else []
def rdCode (B q : Int) (zs : List Int) (ps : List (Int × List Int)) : Int := if dOK B zs ps then (if inB q 0 (B - 1) then 0 else 2) else 1

theorem seenIn_length (B q : Int) (zs : List Int) (ps : List (Int × List Int)) (hok : dOK B zs ps = true) (hq : 0 ≤ q ∧ q ≤ B - 1) : (seenIn zs q ps).length = 128 := by
  obtain ⟨hB1, hB2, hzl, hpl, hel⟩ := dOK_out hok
  exact seenIn_ind (fun l => l.length = 128) zs q ps (blk_length zs _ (by omega)) (fun i hi => (of_decide_eq_true (hel i hi)).2.2)

theorem rdBytes_length (B q : Int) (zs : List Int) (ps : List (Int × List Int)) : (rdBytes B q zs ps).length ≤ 128 := by
  unfold rdBytes
  split
  · rename_i hok
    split
    · rename_i hq
      exact Nat.le_of_eq (seenIn_length B q zs ps hok (of_decide_eq_true hq))
    · simp
  · simp

set_option maxHeartbeats 1000000 in
theorem implRead_no (B q : Int) (da ca : Option Addr) (dc cc : Nat) (zs : List Int) (ps : List (Int × List Int)) (w : World) (hR : DRead w (.agg #[.int .i64 B, .slice da zs.length dc, .slice ca ps.length cc]) B zs ps) (hzl' : zs.length ≤ 1048576) (hpl : ps.length ≤ 1048576) (hel' : ∀ i, (ps.getD i (0, [])).2.length ≤ 1048576) (hno : dOK B zs ps = true → ¬ (0 ≤ q ∧ q ≤ B - 1)) :
    Calls Try.prog 23 #[.agg #[.int .i64 B, .slice da zs.length dc, .slice ca ps.length cc], .int .i64 q] w fun e w' => e = .returned (.tuple #[.slice none 0 0, .int .i64 (rdCode B q zs ps)]) ∧ Below w.heap.size w w' := by
  have hb0 := belowA w (.cells #[.int .i64 B, .slice da zs.length dc, .slice ca ps.length cc] 25)
  have hBx := Box3.made w (.int .i64 B) (.slice da zs.length dc) (.slice ca ps.length cc) 25 _ rfl
  by_cases hok : dOK B zs ps = true
  · obtain ⟨hB1, hB2, -⟩ := dOK_out hok
    have hiq := inB_false (hno hok)
    have hcode : rdCode B q zs ps = 2 := by simp [rdCode, hok, hiq]
    go_enter Try.func23, Try.ntmps23
    go_wp2_with fail
    refine (valid_any B _ zs ps _ (hR.below hb0) hzl' hpl hel').mono ?_
    rintro e w1 ⟨rfl, hb1⟩
    have hBx1 := hBx.below hb1
    have hbel1 := hb0.trans (hb1.mono hb0.size)
    obtain ⟨c0, c1, c2⟩ := hBx1.cells
    clear hBx hb1
    go_wp2_with fail
    refine (has_any B q _ _ _ (by omega) hB2).mono ?_
    rintro e w2 ⟨rfl, hb2⟩
    have hbel2 := hbel1.trans (hb2.mono hbel1.size)
    clear c0 c1 c2 hBx1 hb2 hbel1
    go_wp2
    go_ret2
    exact ⟨by rw [hcode]; rfl, hbel2⟩
  · have hok' : dOK B zs ps = false := by simpa using hok
    have hcode : rdCode B q zs ps = 1 := by simp [rdCode, hok']
    go_enter Try.func23, Try.ntmps23
    go_wp2_with fail
    refine (valid_any B _ zs ps _ (hR.below hb0) hzl' hpl hel').mono ?_
    rintro e w1 ⟨rfl, hb1⟩
    have hbel1 := hb0.trans (hb1.mono hb0.size)
    clear hBx hb1
    go_wp2
    go_ret2
    exact ⟨by rw [hcode]; rfl, hbel1⟩

set_option maxHeartbeats 1000000 in
theorem specRead_no (B q : Int) (da ca : Option Addr) (dc cc : Nat) (zs : List Int) (ps : List (Int × List Int)) (w : World) (hR : DRead w (.agg #[.int .i64 B, .slice da zs.length dc, .slice ca ps.length cc]) B zs ps) (hzl' : zs.length ≤ 1048576) (hpl : ps.length ≤ 1048576) (hel' : ∀ i, (ps.getD i (0, [])).2.length ≤ 1048576) (hno : dOK B zs ps = true → ¬ (0 ≤ q ∧ q ≤ B - 1)) :
    Calls Try.prog 26 #[.agg #[.int .i64 B, .slice da zs.length dc, .slice ca ps.length cc], .int .i64 q] w fun e w' => e = .returned (.tuple #[.slice none 0 0, .int .i64 (rdCode B q zs ps)]) ∧ Below w.heap.size w w' := by
  have hb0 := belowA w (.cells #[.int .i64 B, .slice da zs.length dc, .slice ca ps.length cc] 25)
  have hBx := Box3.made w (.int .i64 B) (.slice da zs.length dc) (.slice ca ps.length cc) 25 _ rfl
  by_cases hok : dOK B zs ps = true
  · obtain ⟨hB1, hB2, -⟩ := dOK_out hok
    have hiq := inB_false (hno hok)
    have hcode : rdCode B q zs ps = 2 := by simp [rdCode, hok, hiq]
    have hno' := hno hok
    by_cases hq0 : q < 0
    · go_enter Try.func26, Try.ntmps26
      go_wp2_with fail
      refine (l1Valid_any B _ zs ps _ (hR.below hb0) hzl' hpl hel').mono ?_
      rintro e w1 ⟨rfl, hb1⟩
      have hbel1 := hb0.trans (hb1.mono hb0.size)
      clear hBx hb1
      go_wp2
      go_ret2
      exact ⟨by rw [hcode]; rfl, hbel1⟩
    · have hge : B ≤ q := by omega
      go_enter Try.func26, Try.ntmps26
      go_wp2_with fail
      refine (l1Valid_any B _ zs ps _ (hR.below hb0) hzl' hpl hel').mono ?_
      rintro e w1 ⟨rfl, hb1⟩
      have hBx1 := hBx.below hb1
      have hbel1 := hb0.trans (hb1.mono hb0.size)
      obtain ⟨c0, c1, c2⟩ := hBx1.cells
      clear hBx hb1
      go_wp2
      go_ret2
      exact ⟨by rw [hcode]; rfl, hbel1⟩
  · have hok' : dOK B zs ps = false := by simpa using hok
    have hcode : rdCode B q zs ps = 1 := by simp [rdCode, hok']
    go_enter Try.func26, Try.ntmps26
    go_wp2_with fail
    refine (l1Valid_any B _ zs ps _ (hR.below hb0) hzl' hpl hel').mono ?_
    rintro e w1 ⟨rfl, hb1⟩
    have hbel1 := hb0.trans (hb1.mono hb0.size)
    clear hBx hb1
    go_wp2
    go_ret2
    exact ⟨by rw [hcode]; rfl, hbel1⟩

theorem implRead_any (B q : Int) (da ca : Option Addr) (dc cc : Nat) (zs : List Int) (ps : List (Int × List Int)) (w : World) (hR : DRead w (.agg #[.int .i64 B, .slice da zs.length dc, .slice ca ps.length cc]) B zs ps) (hcap : zs.length ≤ dc) (hzl : zs.length ≤ 1048576) (hpl : ps.length ≤ 1048576) (hel : ∀ i, (ps.getD i (0, [])).2.length ≤ 1048576) :
    Calls Try.prog 23 #[.agg #[.int .i64 B, .slice da zs.length dc, .slice ca ps.length cc], .int .i64 q] w fun e w' => ∃ a cap, e = .returned (.tuple #[.slice a (rdBytes B q zs ps).length cap, .int .i64 (rdCode B q zs ps)]) ∧ Own8 w.heap.size w'.heap.size w' (.slice a (rdBytes B q zs ps).length cap) (rdBytes B q zs ps) ∧ Below w.heap.size w w' := by
  by_cases hy : dOK B zs ps = true ∧ (0 ≤ q ∧ q ≤ B - 1)
  · refine (devRead_yes B q da ca dc cc zs ps w hR hcap hy.1 hy.2).mono fun e w' hq => ?_
    obtain ⟨g, rfl, h1, h2, h3, h4⟩ := hq
    have hb : rdBytes B q zs ps = seenIn zs q ps := by simp [rdBytes, hy.1, inB_true hy.2]
    have hc : rdCode B q zs ps = 0 := by simp [rdCode, hy.1, inB_true hy.2]
    rw [hb, hc, seenIn_length B q zs ps hy.1 hy.2]
    exact ⟨_, _, rfl, h3.wider h1 h2, h4⟩
  · refine (implRead_no B q da ca dc cc zs ps w hR hzl hpl hel (fun h1 h2 => hy ⟨h1, h2⟩)).mono fun e w' hq => ?_
    obtain ⟨rfl, h4⟩ := hq
    have hb : rdBytes B q zs ps = [] := by
      unfold rdBytes
      split
      · rename_i hok
        rw [inB_false (fun h2 => hy ⟨hok, h2⟩)]; rfl
      · rfl
    rw [hb]
    exact ⟨none, 0, rfl, Own8.empty _ _ _ _ _, h4⟩

theorem specRead_any (B q : Int) (da ca : Option Addr) (dc cc : Nat) (zs : List Int) (ps : List (Int × List Int)) (w : World) (hR : DRead w (.agg #[.int .i64 B, .slice da zs.length dc, .slice ca ps.length cc]) B zs ps) (hcap : zs.length ≤ dc) (hzl : zs.length ≤ 1048576) (hpl : ps.length ≤ 1048576) (hel : ∀ i, (ps.getD i (0, [])).2.length ≤ 1048576) :
    Calls Try.prog 26 #[.agg #[.int .i64 B, .slice da zs.length dc, .slice ca ps.length cc], .int .i64 q] w fun e w' => ∃ a cap, e = .returned (.tuple #[.slice a (rdBytes B q zs ps).length cap, .int .i64 (rdCode B q zs ps)]) ∧ Own8 w.heap.size w'.heap.size w' (.slice a (rdBytes B q zs ps).length cap) (rdBytes B q zs ps) ∧ Below w.heap.size w w' := by
  by_cases hy : dOK B zs ps = true ∧ (0 ≤ q ∧ q ≤ B - 1)
  · refine (specRead_yes B q da ca dc cc zs ps w hR hcap hy.1 hy.2).mono fun e w' hq => ?_
    obtain ⟨a, cap, g, rfl, h1, h2, h3, h4⟩ := hq
    have hb : rdBytes B q zs ps = seenIn zs q ps := by simp [rdBytes, hy.1, inB_true hy.2]
    have hc : rdCode B q zs ps = 0 := by simp [rdCode, hy.1, inB_true hy.2]
    rw [hb, hc, seenIn_length B q zs ps hy.1 hy.2]
    exact ⟨_, _, rfl, h3.wider h1 h2, h4⟩
  · refine (specRead_no B q da ca dc cc zs ps w hR hzl hpl hel (fun h1 h2 => hy ⟨h1, h2⟩)).mono fun e w' hq => ?_
    obtain ⟨rfl, h4⟩ := hq
    have hb : rdBytes B q zs ps = [] := by
      unfold rdBytes
      split
      · rename_i hok
        rw [inB_false (fun h2 => hy ⟨hok, h2⟩)]; rfl
      · rfl
    rw [hb]
    exact ⟨none, 0, rfl, Own8.empty _ _ _ _ _, h4⟩
end Go.Proofs.Ytbadedhliplkeaa
