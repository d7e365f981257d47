import Derived.Test.YtbadedhliplkeaaAp1
namespace Go.Proofs.Ytbadedhliplkeaa
open Go.RowKit
set_option linter.unusedVariables false

/-- the steps one after another, till one is refused -/
def runS (B : Int) : List Int → List (Int × List Int) → List (Int × Int × List Int) → List Int × List (Int × List Int) × Int
  | z, p, [] => (z, p, 0)
  | z, p, s :: r => if stC B p.length s = 0 then runS B (stZ z p s) (stP B p s) r else (z, p, stC B p.length s)

/-- how many steps count lets by -/
def upTo (count : Int) (n : Nat) : Nat := (max 0 (min count n)).toNat

theorem upTo_le (count : Int) (n : Nat) : upTo count n ≤ n := by unfold upTo; omega

theorem stC_no {B : Int} {zs : List Int} {ps : List (Int × List Int)} {s : Int × Int × List Int} (h : ¬ stC B ps.length s = 0) : stZ zs ps s = zs ∧ stP B ps s = ps := by
  unfold stC at h
  unfold stZ stP
  by_cases h1 : s.1 = 1
  · rw [if_pos h1] at h
    rw [if_neg (by omega), if_pos h1]
    exact ⟨rfl, by unfold wP; rw [if_neg h]⟩
  · rw [if_neg h1] at h
    by_cases h2 : s.1 = 2
    · rw [if_pos h2] at h; exact absurd rfl h
    · rw [if_neg h2, if_neg h1, if_neg h2]; exact ⟨rfl, rfl⟩

theorem stP_len {B : Int} {ps : List (Int × List Int)} {s : Int × Int × List Int} (h : ps.length ≤ 2048) : (stP B ps s).length ≤ 2048 := by
  unfold stP wP
  split
  · split
    · rename_i h2
      have := (wC_yes.1 h2).2.2
      simp; omega
    · exact h
  · split
    · simp
    · exact h

theorem stZ_len {zs : List Int} {ps : List (Int × List Int)} {s : Int × Int × List Int} (h : Fits zs.length ps) : (stZ zs ps s).length = zs.length := by
  unfold stZ
  split
  · have := settle_length zs ps h ps.length (Nat.le_refl _)
    rwa [List.take_length] at this
  · rfl

theorem drop_el (ss : List (Int × Int × List Int)) (m k : Nat) (hk : k < m) (hm : m ≤ ss.length) : (ss.take m).drop k = ss.getD k (0, 0, []) :: (ss.take m).drop (k + 1) := by
  rw [List.drop_eq_getElem_cons (by simp; omega)]
  simp [show k < ss.length by omega]

/-- what DevApply answers: disk, cache, code -/
def apS (B : Int) (zs : List Int) (ps : List (Int × List Int)) (ss : List (Int × Int × List Int)) (count : Int) : List Int × List (Int × List Int) × Int :=
  if ss.length > 4096 then (zs, ps, 4) else runS B zs ps (ss.take (upTo count ss.length))

/-- out of the device at work: the answer -/
theorem Stt.fin {S : Nat → Prop} {w W : World} {p g r : Nat} {B : Int} {ua ca : Option Addr} {uc cc : Nat} {zs : List Int} {ps : List (Int × List Int)} (h : Stt S W p g B (.slice ua zs.length uc) (.slice ca ps.length cc) zs ps) (hb : Below w.heap.size w W) (hS : ∀ k, S k → w.heap.size ≤ k ∧ k ≠ g ∧ k ≠ r) (h3 : w.heap.size ≤ r) (h4 : r ≠ g) (h5 : w.heap.size ≤ g) (x y z : Value) :
    DOwnX w.heap.size (((W.setCell ⟨r, 0, none⟩ x).setCell ⟨r, 1, none⟩ y).setCell ⟨r, 2, none⟩ z).heap.size (((W.setCell ⟨r, 0, none⟩ x).setCell ⟨r, 1, none⟩ y).setCell ⟨r, 2, none⟩ z) (.agg #[.int .i64 B, .slice ua zs.length uc, .slice ca ps.length cc]) B zs ps ∧
      Below w.heap.size w (((W.setCell ⟨r, 0, none⟩ x).setCell ⟨r, 1, none⟩ y).setCell ⟨r, 2, none⟩ z) :=
  res_endX hb h.disk h.cache hS h3 h4 h5 x y z

set_option maxRecDepth 100000 in
set_option maxHeartbeats 4000000 in
theorem implApply_yes (count : Int) (sb : Nat) (ss : List (Int × Int × List Int)) (B : Int) (da ca : Option Addr) (dc cc : Nat) (zs : List Int) (ps : List (Int × List Int)) (w : World) (h : DRead w (.agg #[.int .i64 B, .slice da zs.length dc, .slice ca ps.length cc]) B zs ps) (hok : dOK B zs ps = true) (hv : SRead w (.slice (some ⟨sb, 0, none⟩) ss.length ss.length) ss) (hs : ss.length ≤ 1048576) (hsd : ∀ i, (ss.getD i (0, 0, [])).2.2.length ≤ 1048576) (hc1 : -9223372036854775808 ≤ count) (hc2 : count ≤ 9223372036854775807) :
    Calls Try.prog 24 #[.agg #[.int .i64 B, .slice da zs.length dc, .slice ca ps.length cc], .slice (some ⟨sb, 0, none⟩) ss.length ss.length, .int .i64 count] w fun e w' => ∃ xa xc ya yc, e = .returned (.tuple #[.agg #[.int .i64 B, .slice xa (apS B zs ps ss count).1.length xc, .slice ya (apS B zs ps ss count).2.1.length yc], .int .i64 (apS B zs ps ss count).2.2]) ∧ DOwnX w.heap.size w'.heap.size w' (.agg #[.int .i64 B, .slice xa (apS B zs ps ss count).1.length xc, .slice ya (apS B zs ps ss count).2.1.length yc]) B (apS B zs ps ss count).1 (apS B zs ps ss count).2.1 ∧ Below w.heap.size w w' := by
  obtain ⟨hB1, hB2, hzl, hpl, hel⟩ := dOK_out hok
  have hzl' : zs.length ≤ 1048576 := by omega
  have hel' : ∀ i, (ps.getD i (0, [])).2.length ≤ 1048576 := fun i => by
    by_cases hi : i < ps.length
    · have := of_decide_eq_true (hel i hi); omega
    · simp [hi]
  have hbel := fun o1 o2 => ((Below.refl w.heap.size w).alloc (Nat.le_refl _) o1).alloc (by simp) o2
  have hX := (Box3.made w (.int .i64 B) (.slice da zs.length dc) (.slice ca ps.length cc) 25 _ rfl).alloc (.cells #[.int .i64 0, .slice none 0 0, .slice none 0 0] 25)
  have hY := Box3.made (w.alloc (.cells #[.int .i64 B, .slice da zs.length dc, .slice ca ps.length cc] 25)) (.int .i64 0) (.slice none 0 0) (.slice none 0 0) 25 (w.heap.size + 1) (by simp)
  have hb0 := hbel (.cells #[.int .i64 B, .slice da zs.length dc, .slice ca ps.length cc] 25) (.cells #[.int .i64 0, .slice none 0 0, .slice none 0 0] 25)
  clear hbel
  go_enter Try.func24, Try.ntmps24
  go_wp2_with fail
  refine (valid_any B _ zs ps _ (h.below hb0) hzl' (by omega) hel').mono ?_
  rintro e w1 ⟨rfl, hb1⟩
  have hX1 := hX.below hb1
  have hY1 := hY.below hb1
  have hs1 : w.heap.size + 1 + 1 ≤ w1.heap.size := by have := hb1.size; simpa using this
  have hbel1 := hb0.trans (hb1.mono hb0.size)
  obtain ⟨c0, c1, c2⟩ := hX1.cells
  clear hX hY hb1 hb0
  go_wp2_with fail
  refine (fresh_row B da ca dc cc zs ps _ (h.below hbel1) hok).mono ?_
  rintro e w2 ⟨u, g, g0, rfl, hg0, hgg, hu, hO, hb2, cur, hsp, hcs⟩
  have hY2 := hY1.below hb2
  have hbel2 := hbel1.trans (hb2.mono hbel1.size)
  have hs2 := hb2.size
  obtain ⟨uc, rfl, huc⟩ := hu.form
  have hgl := hu.lt
  have hR2 : PRow (fun k => g0 ≤ k ∧ k ≠ g ∧ k ≠ w2.heap.size) w2 _ ps := PRow.of_own hO hsp hcs (by omega) (fun k k1 k2 => ⟨k1, by omega, by omega⟩) hgg
  clear c0 c1 c2 hX1 hY1 hb2 hbel1 hO hsp hcs
  have hb3 := belowA w2 (.cells #[.int .i64 B, .slice (some ⟨g, 0, none⟩) zs.length uc, .slice (some ⟨g0, 0, none⟩) ps.length ps.length] 25)
  have hP3 := Box3.made w2 (.int .i64 B) (.slice (some ⟨g, 0, none⟩) zs.length uc) (.slice (some ⟨g0, 0, none⟩) ps.length ps.length) 25 _ rfl
  have hS3 : Stt (fun k => g0 ≤ k ∧ k ≠ g ∧ k ≠ w2.heap.size) _ w2.heap.size g B _ _ zs ps := ⟨hP3, hu.below hb3, hR2.below hb3, by omega, by omega, by omega, fun k hk => by simp at hk; omega, fits_of_ok hok⟩
  have hY3 := hY2.below hb3
  have hbel3 := hbel2.trans (hb3.mono hbel2.size)
  clear hu hR2 hY2 hb3 hbel2 hP3
  have hSr : ∀ k, (g0 ≤ k ∧ k ≠ g ∧ k ≠ w2.heap.size) → w.heap.size ≤ k ∧ k ≠ g ∧ k ≠ w.heap.size + 1 := fun k hk => by omega
  by_cases hn : ss.length > 4096
  · have hn' : (4096 : Int) < (ss.length : Int) := by omega
    have HE : Hid (apS B zs ps ss count = (zs, ps, 4)) := by unfold apS; rw [if_pos hn]; rfl
    obtain ⟨p0, p1, p2⟩ := hS3.box.cells
    obtain ⟨y0, y1, y2⟩ := hY3.cells
    have hfr := hY3.free
    have hend := hS3.fin (r := w.heap.size + 1) hbel3 hSr (by omega) (by omega) (by omega)
    clear hS3 hY3 hv
    go_wp2
    refine bodyPost_ret (v := .tuple #[.agg #[.int .i64 B, .slice (some ⟨g, 0, none⟩) zs.length uc, .slice (some ⟨g0, 0, none⟩) ps.length ps.length], .int .i64 4]) (by simp [results, Try.results24, go_sem, y0, y1, y2]) rfl ?_
    rw [HE.out]
    exact ⟨_, _, _, _, rfl, (hend _ _ _).1, (hend _ _ _).2⟩
  · have hn' : ¬ (4096 : Int) < (ss.length : Int) := by omega
    have hn4 : ss.length ≤ 4096 := by omega
    obtain ⟨m, hmm⟩ : ∃ m, m = upTo count ss.length := ⟨_, rfl⟩
    obtain ⟨mn, hmin⟩ : ∃ mn, (if (ss.length : Int) < count then (ss.length : Int) else count) = mn := ⟨_, rfl⟩
    have hmax : (if 0 < mn then mn else 0) = (m : Int) := by
      rw [hmm, ← hmin]; unfold upTo; split <;> split <;> omega
    have hmn : m ≤ ss.length := by rw [hmm]; exact upTo_le _ _
    have hmi : (m : Int) ≤ (ss.length : Int) := by omega
    have HM : Hid (m = upTo count ss.length) := hmm
    clear hmm
    go_wp2_with fail
    have HE : Hid (apS B zs ps ss count = runS B zs ps (ss.take m)) := by unfold apS; rw [if_neg hn, HM.out]; rfl
    clear hmin hmax hn' hn HM hc1 hc2
    go_loopw [11, 12, 32] (fun _ _ i wr => ∃ (k : Nat) (z' : List Int) (p' : List (Int × List Int)) (c : Value), k ≤ m ∧ i = .int .i64 k ∧ Stt (fun k => g0 ≤ k ∧ k ≠ g ∧ k ≠ w2.heap.size) wr w2.heap.size g B (.slice (some ⟨g, 0, none⟩) zs.length uc) c z' p' ∧ z'.length = zs.length ∧ p'.length ≤ 2048 ∧ runS B zs ps (ss.take m) = runS B z' p' ((ss.take m).drop k) ∧ Box3 wr (w.heap.size + 1) (.int .i64 0) (.slice none 0 0) (.slice none 0 0) 25 ∧ Below w.heap.size w wr) (fun _ _ i _ => m - (intOf i).toNat)
    case atStart => exact ⟨0, zs, ps, _, Nat.zero_le _, rfl, hS3, rfl, hpl, rfl, hY3, hbel3⟩
    case round =>
      obtain ⟨k, z', p', c, hk, rfl, hS, hzz, hpp, hrun, hYr, hbr⟩ := hrel
      by_cases hlt : k < m
      · obtain ⟨_, _, he, hvc⟩ := hv
        simp only [Value.slice.injEq, true_and] at he
        obtain ⟨rfl, rfl⟩ := he
        obtain ⟨b, off, he, hcell⟩ := hvc (by omega)
        simp only [Option.some.injEq, Addr.mk.injEq, and_true] at he
        obtain ⟨rfl, rfl⟩ := he
        obtain ⟨ea, ec, g1, g2, g3, g4⟩ := hcell k (by omega)
        have hbw : sb < w.heap.size := World.block_lt_of_cell? _ _ g1
        rw [← hbr.cell (p := ⟨sb, 0 + k * 3, none⟩) hbw] at g1
        rw [← hbr.cell (p := ⟨sb, 0 + k * 3 + 1, none⟩) hbw] at g2
        rw [← hbr.cell (p := ⟨sb, 0 + k * 3 + 2, none⟩) hbw] at g3
        simp only [Nat.zero_add] at g1 g2 g3
        have g5 := g4.below hbr
        have hdk := hsd k
        have hdr := drop_el ss m k hlt hmn
        have hki : (k : Int) < (m : Int) := by omega
        clear hcell g4 hvc
        generalize ss.getD k (0, 0, []) = el at g1 g2 g3 g5 hdk hdr
        obtain ⟨kd, q, ds⟩ := el
        simp only at g1 g2 g3 g5 hdk hdr
        have hbA := belowA wr (.cells #[.int .i64 kd, .int .i64 q, .slice ea ds.length ec] 46)
        have hSA := hS.below hbA
        have hvA := g5.below hbA
        have hYA := hYr.below hbA
        have hbelA := hbr.trans (hbA.mono hbr.size)
        have hzB : (z'.length : Int) = B * 128 := by omega
        rw [hdr] at hrun
        simp only [runS] at hrun
        have HR : Hid (runS B zs ps (ss.take m) = if stC B p'.length (kd, q, ds) = 0 then runS B (stZ z' p' (kd, q, ds)) (stP B p' (kd, q, ds)) ((ss.take m).drop (k + 1)) else (z', p', stC B p'.length (kd, q, ds))) := hrun
        have hzn := stZ_len (s := (kd, q, ds)) hS.fits
        have hpn := stP_len (B := B) (s := (kd, q, ds)) hpp
        have HZ : Hid ((stZ z' p' (kd, q, ds)).length = zs.length) := hzn.trans hzz
        have HZZ : Hid (z'.length = zs.length) := hzz
        clear hrun hdr hbA hS hYr hbr g5 hzn hzz
        by_cases hc0 : stC B p'.length (kd, q, ds) = 0
        · have HC : Hid (stC B p'.length (kd, q, ds) = 0) := hc0
          clear hc0
          go_wp2_with fail
          refine (apply_any _ _ g B _ _ z' p' kd q ea ec ds _ hSA (by omega) hB2 hzB (by omega) hdk hvA).mono ?_
          rintro e w3 ⟨c3, rfl, hS4, hF4⟩
          rw [HC.out]
          have hY4 : Box3 w3 (w.heap.size + 1) (.int .i64 0) (.slice none 0 0) (.slice none 0 0) 25 := (hF4.block _ hYA.lt (by omega)).trans hYA
          have hbel4 := hbelA.trans (hF4.below hbelA.size (fun k hk => by omega))
          have HR2 := HR.out
          rw [if_pos HC.out] at HR2
          have HR3 : Hid (runS B zs ps (ss.take m) = runS B (stZ z' p' (kd, q, ds)) (stP B p' (kd, q, ds)) ((ss.take m).drop (k + 1))) := HR2
          clear HR2 hF4 hYA hbelA hSA hvA g1 g2 g3
          go_wp2
          go_roundw
          case rel => exact ⟨k + 1, _, _, _, by omega, by go_num, hS4, HZ.out, hpn, HR3.out, hY4, hbel4⟩
          case measure => simp [intOf]; omega
        · have HC : Hid (¬ stC B p'.length (kd, q, ds) = 0) := hc0
          have hne : (stC B p'.length (kd, q, ds) != 0) = true := by simp [hc0]
          clear hc0
          go_wp2_with fail
          refine (apply_any _ _ g B _ _ z' p' kd q ea ec ds _ hSA (by omega) hB2 hzB (by omega) hdk hvA).mono ?_
          rintro e w3 ⟨c3, rfl, hS4, hF4⟩
          obtain ⟨hz5, hp5⟩ := stC_no (zs := z') HC.out
          rw [hz5, hp5] at hS4
          obtain ⟨ca3, cc3, rfl⟩ := hS4.cache.form
          have hY4 : Box3 w3 (w.heap.size + 1) (.int .i64 0) (.slice none 0 0) (.slice none 0 0) 25 := (hF4.block _ hYA.lt (by omega)).trans hYA
          have hbel4 := hbelA.trans (hF4.below hbelA.size (fun k hk => by omega))
          have HE2 := HE.out
          rw [HR.out, if_neg HC.out] at HE2
          have HE3 : Hid (apS B zs ps ss count = (z', p', stC B p'.length (kd, q, ds))) := HE2
          have hS5 : Stt (fun k => g0 ≤ k ∧ k ≠ g ∧ k ≠ w2.heap.size) w3 w2.heap.size g B (.slice (some ⟨g, 0, none⟩) z'.length uc) (.slice ca3 p'.length cc3) z' p' := by rw [HZZ.out]; exact hS4
          have hend := hS5.fin (r := w.heap.size + 1) hbel4 hSr (by omega) (by omega) (by omega)
          obtain ⟨p0, p1, p2⟩ := hS5.box.cells
          obtain ⟨y0, y1, y2⟩ := hY4.cells
          have hfr := hY4.free
          clear HE2 hz5 hp5 hF4 hYA hbelA hSA hvA g1 g2 g3 hS4 hS5 hY4
          go_wp2
          refine bodyPost_ret (v := .tuple #[.agg #[.int .i64 B, .slice (some ⟨g, 0, none⟩) z'.length uc, .slice ca3 p'.length cc3], .int .i64 (stC B p'.length (kd, q, ds))]) (by simp [results, Try.results24, go_sem, y0, y1, y2]) rfl ?_
          rw [HE3.out]
          exact ⟨_, _, _, _, rfl, (hend _ _ _).1, (hend _ _ _).2⟩
      · obtain rfl : k = m := by omega
        have HE3 : Hid (apS B zs ps ss count = (z', p', 0)) := by
          have := HE.out
          rw [hrun, List.drop_eq_nil_of_le (by simp; omega)] at this
          exact this
        obtain ⟨ca3, cc3, rfl⟩ := hS.cache.form
        have hS5 : Stt (fun k => g0 ≤ k ∧ k ≠ g ∧ k ≠ w2.heap.size) wr w2.heap.size g B (.slice (some ⟨g, 0, none⟩) z'.length uc) (.slice ca3 p'.length cc3) z' p' := by rw [hzz]; exact hS
        have hend := hS5.fin (r := w.heap.size + 1) hbr hSr (by omega) (by omega) (by omega)
        obtain ⟨p0, p1, p2⟩ := hS5.box.cells
        obtain ⟨y0, y1, y2⟩ := hYr.cells
        have hfr := hYr.free
        clear hS hS5 hYr hrun hzz
        go_wp2
        refine bodyPost_ret (v := .tuple #[.agg #[.int .i64 B, .slice (some ⟨g, 0, none⟩) z'.length uc, .slice ca3 p'.length cc3], .int .i64 0]) (by simp [results, Try.results24, go_sem, y0, y1, y2]) rfl ?_
        rw [HE3.out]
        exact ⟨_, _, _, _, rfl, (hend _ _ _).1, (hend _ _ _).2⟩
end Go.Proofs.Ytbadedhliplkeaa
