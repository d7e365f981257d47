import Derived.Test.YtbadedhliplkeaaDs5
namespace Go.Proofs.Ytbadedhliplkeaa
open Go.RowKit
set_option linter.unusedVariables false

theorem snoc_dat {ps : List (Int × List Int)} (h : ∀ i, (ps.getD i (0, [])).2.length ≤ 128) {q : Int} {ds : List Int} (hd : ds.length ≤ 128) (i : Nat) : ((ps ++ [(q, ds)]).getD i (0, [])).2.length ≤ 128 := by
  by_cases h1 : i < ps.length
  · rw [getD_snoc_lt _ _ _ h1]; exact h i
  · by_cases h2 : i = ps.length
    · subst h2; rw [getD_snoc]; exact hd
    · simp [List.getElem?_eq_none (show (ps ++ [(q, ds)]).length ≤ i by simp; omega)]
theorem dst_dat (zs : List Int) (B : Int) (i : Nat) (s : List (Int × List Int) × List Int × (Nat × Int)) (h : ∀ j, (s.1.getD j (0, [])).2.length ≤ 128) (hb : s.2.1.length = 128) : (∀ j, ((dst zs B i s).1.getD j (0, [])).2.length ≤ 128) ∧ (dst zs B i s).2.1.length = 128 := by
  have hbl : (if i < 14 then dbl zs s.2.2 else s.2.1).length = 128 := by split; exact dbl_length _ _; exact hb
  unfold dst
  by_cases hc : nxV zs (nxS zs (if i < 14 then adv zs s.2.2 3 else s.2.2)) 2 = 0
  · simp only [hc, if_true]
    exact ⟨snoc_dat h (by omega), hbl⟩
  · simp only [hc, if_false]
    exact ⟨snoc_dat h (by omega), hbl⟩
theorem dlp_dat (zs : List Int) (B : Int) (s : List (Int × List Int) × List Int × (Nat × Int)) (h : ∀ j, (s.1.getD j (0, [])).2.length ≤ 128) (hb : s.2.1.length = 128) : ∀ k, (∀ j, ((dlp zs B s k).1.getD j (0, [])).2.length ≤ 128) ∧ (dlp zs B s k).2.1.length = 128
  | 0 => ⟨h, hb⟩
  | k + 1 => dst_dat zs B k _ (dlp_dat zs B s h hb k).1 (dlp_dat zs B s h hb k).2
/-- how great a drawn device is -/
theorem spl_size (zs : List Int) (B : Int) (D : List Int) (s : List (Int × List Int) × List Int × (Nat × Int)) (hB : 8 ≤ B ∧ B ≤ 512) (hD : D.length ≤ 65536) (hp : s.1.length ≤ 2048) (h : ∀ j, (s.1.getD j (0, [])).2.length ≤ 128) (hb : s.2.1.length = 128) :
    (8 ≤ (spl zs B D s).1.1 ∧ (spl zs B D s).1.1 ≤ 513) ∧ (spl zs B D s).1.2.1.length ≤ 65536 ∧ (spl zs B D s).1.2.2.length ≤ 2049 ∧ ∀ j, ((spl zs B D s).1.2.2.getD j (0, [])).2.length ≤ 128 := by
  have key : ∀ r : Int × List Int × List (Int × List Int), r = (B, D.drop 1, s.1) ∨ r = (B + 1, D, s.1) ∨ r = (B, D, s.1) ∨ (∃ q ds, ds.length ≤ 128 ∧ r = (B, D, s.1 ++ [(q, ds)])) → (8 ≤ r.1 ∧ r.1 ≤ 513) ∧ r.2.1.length ≤ 65536 ∧ r.2.2.length ≤ 2049 ∧ ∀ j, (r.2.2.getD j (0, [])).2.length ≤ 128 := by
    rintro r (rfl | rfl | rfl | ⟨q, ds, hd, rfl⟩)
    · exact ⟨by simp only; omega, by simp only [List.length_drop]; omega, by simp only; omega, h⟩
    · exact ⟨by simp only; omega, hD, by simp only; omega, h⟩
    · exact ⟨by simp only; omega, hD, by simp only; omega, h⟩
    · exact ⟨by simp only; omega, hD, by simp only [List.length_append, List.length_cons, List.length_nil]; omega, snoc_dat h hd⟩
  refine key _ ?_
  unfold spl
  by_cases h6 : nxV zs s.2.2 6 = 0
  · rw [if_pos h6]
    by_cases h0 : nxV zs (nxS zs s.2.2) 5 = 0
    · rw [if_pos h0]; exact .inl rfl
    · rw [if_neg h0]
      by_cases h1 : nxV zs (nxS zs s.2.2) 5 = 1
      · rw [if_pos h1]; exact .inr (.inl rfl)
      · rw [if_neg h1]
        by_cases h2 : nxV zs (nxS zs s.2.2) 5 = 2
        · rw [if_pos h2]; exact .inr (.inr (.inr ⟨_, _, by omega, rfl⟩))
        · rw [if_neg h2]
          by_cases h3 : nxV zs (nxS zs s.2.2) 5 = 3
          · rw [if_pos h3]; exact .inr (.inr (.inr ⟨_, _, by omega, rfl⟩))
          · rw [if_neg h3]; exact .inr (.inr (.inr ⟨_, _, by simp only [List.length_drop]; omega, rfl⟩))
  · rw [if_neg h6]; exact .inr (.inr (.inl rfl))
theorem ddR_size (zs : List Int) (p : Nat × Int) : (8 ≤ (ddR zs p).1.1 ∧ (ddR zs p).1.1 ≤ 513) ∧ (ddR zs p).1.2.1.length ≤ 65536 ∧ (ddR zs p).1.2.2.length ≤ 2049 ∧ ∀ j, ((ddR zs p).1.2.2.getD j (0, [])).2.length ≤ 128 := by
  have hB := dbV_in zs p
  have hd := dlp_dat zs (dbV zs p) ([], dbl zs (ddC zs p (ddB zs p)).2, adv zs (ddC zs p (ddB zs p)).2 3) (fun j => by simp) (dbl_length _ _) (ddC zs p (ddB zs p)).1
  refine spl_size zs _ _ _ hB (by rw [filled_length]; omega) ?_ hd.1 hd.2
  rw [dlp_len]
  have h14 := nxV_in zs (ddB zs p) (n := 14) (by decide) (by decide)
  show 0 + (ddC zs p (ddB zs p)).1 ≤ 2048
  unfold ddC
  split
  · simp only; omega
  · simp only; omega

/-- DrawDevWrite's device, block and bytes -/
def dwR (zs : List Int) : (Int × List Int × List (Int × List Int)) × (Nat × Int) := ddR zs (0, bgN zs zs.length)
def dwD (zs : List Int) : List Int := if nxV zs (adv zs (dwR zs).2 3) 12 = 0 then (dbl zs (dwR zs).2).drop 1 else if nxV zs (adv zs (dwR zs).2 3) 12 = 1 then dbl zs (dwR zs).2 ++ [7] else dbl zs (dwR zs).2
def dwQ (zs : List Int) : Int := noV zs (nxS zs (adv zs (dwR zs).2 3)) (dwR zs).1.1
theorem dwD_length (zs : List Int) : (dwD zs).length ≤ 129 := by
  have := dbl_length zs (dwR zs).2
  unfold dwD
  repeat' split
  all_goals simp <;> omega

theorem SrcX.begun {a : Option Addr} {c : Nat} {zs : List Int} {w w1 : World} (hv : Bts w (.slice a zs.length c) zs) (hl : zs.length ≤ 1048576) (hb : Below w.heap.size w w1) (s : Int) (t : TypeId) : SrcX w.heap.size w1.heap.size a c zs (0, s) (w1.alloc (.cells #[.slice a zs.length c, .int .i64 0, .int .u64 s] t)) := by
  have hA : Below w1.heap.size w1 (w1.alloc (.cells #[.slice a zs.length c, .int .i64 0, .int .u64 s] t)) := (Below.refl _ _).alloc (Nat.le_refl _) _
  refine ⟨(hv.below hb).below hA, fun hp b off e => ?_, hb.size, hl, Nat.zero_le _, ?_, ?_, ?_, ?_, ?_, ?_⟩
  · obtain ⟨_, _, he, hc⟩ := hv.shape
    simp only [Value.slice.injEq, true_and] at he
    obtain ⟨rfl, rfl⟩ := he
    obtain ⟨b', off', ha, hcell⟩ := hc hp
    rw [e] at ha
    simp only [Option.some.injEq, Addr.mk.injEq, and_true] at ha
    obtain ⟨rfl, rfl⟩ := ha
    exact World.block_lt_of_cell? _ _ (hcell 0 hp)
  · rw [World.cell?_alloc_at _ _ _ _ rfl]; rfl
  · rw [World.cell?_alloc_at _ _ _ _ rfl]; rfl
  · rw [World.cell?_alloc_at _ _ _ _ rfl]; rfl
  · rw [World.frozen?_alloc_at _ _ _ _ rfl]
  · rw [World.frozen?_alloc_at _ _ _ _ rfl]
  · rw [World.frozen?_alloc_at _ _ _ _ rfl]

theorem cells3_far {w1 : World} {h g : Nat} {x y s : Value} (hq : w1.cell? ⟨h, 0, none⟩ = some x ∧ w1.cell? ⟨h, 1, none⟩ = some y ∧ w1.cell? ⟨h, 2, none⟩ = some s) (hne : h ≠ g) (u v z : Value) :
    (((w1.setCell ⟨g, 0, none⟩ u).setCell ⟨g, 1, none⟩ v).setCell ⟨g, 2, none⟩ z).cell? ⟨h, 0, none⟩ = some x ∧ (((w1.setCell ⟨g, 0, none⟩ u).setCell ⟨g, 1, none⟩ v).setCell ⟨g, 2, none⟩ z).cell? ⟨h, 1, none⟩ = some y ∧ (((w1.setCell ⟨g, 0, none⟩ u).setCell ⟨g, 1, none⟩ v).setCell ⟨g, 2, none⟩ z).cell? ⟨h, 2, none⟩ = some s := by
  refine ⟨?_, ?_, ?_⟩
  · rw [set_far _ _ _ _ _ _ hne, set_far _ _ _ _ _ _ hne, set_far _ _ _ _ _ _ hne]; exact hq.1
  · rw [set_far _ _ _ _ _ _ hne, set_far _ _ _ _ _ _ hne, set_far _ _ _ _ _ _ hne]; exact hq.2.1
  · rw [set_far _ _ _ _ _ _ hne, set_far _ _ _ _ _ _ hne, set_far _ _ _ _ _ _ hne]; exact hq.2.2
theorem Own8.low {lo hi : Nat} {w : World} {v : Value} {zs : List Int} (h : Own8 lo hi w v zs) : Own8 lo (min hi (w.heap.size + 1)) w v zs := by
  obtain ⟨a, cap, hv, hc⟩ := h.shape
  refine ⟨h.small, a, cap, hv, fun hp => ?_⟩
  obtain ⟨b, off, ha, h1, h2, h3, h4⟩ := hc hp
  exact ⟨b, off, ha, h1, by omega, h3, h4⟩

/-- what stands while the rest is drawn -/
structure DwI (g : Nat) (w : World) (o lo hi top : Nat) (S : Nat → Prop) (B : Int) (dv : Value) (D : List Int) (cv : Value) (ps : List (Int × List Int)) (wr : World) : Prop where
  res : Box3 wr w.heap.size (.int .i64 0) (.slice none 0 0) (.slice none 0 0) 25
  box : Box3 wr o (.int .i64 B) dv cv 25
  disk : Own8 lo hi wr dv D
  cache : PRow S wr cv ps
  at1 : w.heap.size < g ∧ g < lo ∧ o < top ∧ top ≤ wr.heap.size ∧ g < o ∧ hi ≤ top
  at2 : ∀ q, S q → g < q ∧ ¬ (lo ≤ q ∧ q < hi)
  at3 : ∀ q, S q → q < o
  bel : Below w.heap.size w wr
/-- a change of the source or of blocks from top on -/
theorem DwI.step {g : Nat} {w : World} {o lo hi top : Nat} {S T : Nat → Prop} {B : Int} {dv : Value} {D : List Int} {cv : Value} {ps : List (Int × List Int)} {wr w' : World} (h : DwI g w o lo hi top S B dv D cv ps wr) (hf : Frm T wr w') (hT : ∀ k, T k → k = g ∨ top ≤ k) : DwI g w o lo hi top S B dv D cv ps w' := by
  have a1 := h.at1
  have hz := hf.size
  have hk : ∀ k, k < wr.heap.size → k ≠ g → k < top → w'.heap[k]? = wr.heap[k]? := fun k h1 h2 h3 => hf.block k h1 fun e => by have := hT k e; omega
  exact ⟨(hk _ h.res.lt (by omega) (by omega)).trans h.res, (hk _ h.box.lt (by omega) (by omega)).trans h.box, h.disk.kept hz (fun q q1 q2 q3 => hk q q3 (by omega) (by omega)), h.cache.kept hz (fun q q1 q2 => hk q q2 (by have := (h.at2 q q1).1; omega) (by have := h.at3 q q1; omega)), ⟨a1.1, a1.2.1, a1.2.2.1, by omega, a1.2.2.2.2⟩, h.at2, h.at3, h.bel.trans (hf.below (by omega) (fun k e => by have := hT k e; omega))⟩

/-- DrawDevWrite's answer -/
def DwR (zs : List Int) (w : World) (v : Value) (wr : World) : Prop :=
  ∃ da dc ca cc lo hi ea ec, ∃ S : Nat → Prop, v = .tuple #[.agg #[.int .i64 (dwR zs).1.1, .slice da (dwR zs).1.2.1.length dc, .slice ca (dwR zs).1.2.2.length cc], .int .i64 (dwQ zs), .slice ea (dwD zs).length ec] ∧ (dwR zs).1.2.1.length ≤ dc ∧ Own8 lo hi wr (.slice da (dwR zs).1.2.1.length dc) (dwR zs).1.2.1 ∧ PRow S wr (.slice ca (dwR zs).1.2.2.length cc) (dwR zs).1.2.2 ∧ (∀ q, S q → w.heap.size ≤ q ∧ ¬ (lo ≤ q ∧ q < hi)) ∧ w.heap.size ≤ lo ∧ Bts wr (.slice ea (dwD zs).length ec) (dwD zs) ∧ Below w.heap.size w wr
theorem DwI.fin {g : Nat} {w : World} {o lo hi top : Nat} {S : Nat → Prop} {zs D : List Int} {B : Int} {ps : List (Int × List Int)} {da ca ea : Option Addr} {dc cc ec n : Nat} {p : Nat × Int} {ds : List Int} {W : World} (h : DwI g w o lo hi top S B (.slice da D.length dc) D (.slice ca ps.length cc) ps W) (hdc : D.length ≤ dc) (hr : dwR zs = ((B, D, ps), p)) (hd : dwD zs = ds) (hn : ds.length = n) (hb : Bts W (.slice ea n ec) ds) (hbb : ∀ b off, ea = some ⟨b, off, none⟩ → 0 < n → top ≤ b) (x y z : Value) :
    DwR zs w (.tuple #[.agg #[.int .i64 B, .slice da D.length dc, .slice ca ps.length cc], .int .i64 (dwQ zs), .slice ea n ec]) (((W.setCell ⟨w.heap.size, 0, none⟩ x).setCell ⟨w.heap.size, 1, none⟩ y).setCell ⟨w.heap.size, 2, none⟩ z) := by
  have a1 := h.at1
  have hk : ∀ k, k ≠ w.heap.size → (((W.setCell ⟨w.heap.size, 0, none⟩ x).setCell ⟨w.heap.size, 1, none⟩ y).setCell ⟨w.heap.size, 2, none⟩ z).heap[k]? = W.heap[k]? := fun k hk => (Below.heap_setCell _ _ _ _ hk).trans ((Below.heap_setCell _ _ _ _ hk).trans (Below.heap_setCell _ _ _ _ hk))
  have hsz : W.heap.size ≤ (((W.setCell ⟨w.heap.size, 0, none⟩ x).setCell ⟨w.heap.size, 1, none⟩ y).setCell ⟨w.heap.size, 2, none⟩ z).heap.size := by simp
  have hw : w.heap.size ≤ w.heap.size := Nat.le_refl _
  refine ⟨da, dc, ca, cc, lo, hi, ea, ec, S, by rw [hr, hd, hn], by rw [hr]; exact hdc, by rw [hr]; exact h.disk.kept hsz (fun q q1 _ _ => hk q (by omega)), by rw [hr]; exact h.cache.kept hsz (fun q q1 _ => hk q (by have := (h.at2 q q1).1; omega)), fun q e => ⟨by have := (h.at2 q e).1; omega, (h.at2 q e).2⟩, by omega, ?_, ((h.bel.setCell (p := ⟨w.heap.size, 0, none⟩) hw x).setCell (p := ⟨w.heap.size, 1, none⟩) hw y).setCell (p := ⟨w.heap.size, 2, none⟩) hw z⟩
  rw [hd, hn]
  obtain ⟨_, _, he, hc⟩ := hb.shape
  rw [hn] at he hc
  refine ⟨hb.small, _, _, by rw [hn], fun hp => ?_⟩
  simp only [Value.slice.injEq, true_and] at he
  obtain ⟨rfl, rfl⟩ := he
  rw [hn] at hp
  obtain ⟨b, off, rfl, hcell⟩ := hc hp
  have hbt := hbb b off rfl hp
  refine ⟨b, off, rfl, fun i hi => ?_⟩
  rw [hn] at hi
  exact (World.cell?_of_block (w := W) (hk b (by omega))).trans (hcell i hi)

set_option maxHeartbeats 4000000 in
theorem drawWrite_x (a : Option Addr) (c : Nat) (zs : List Int) (w : World) (hv : Bts w (.slice a zs.length c) zs) (hl : zs.length ≤ 1048576) :
    Calls Try.prog 17 #[.slice a zs.length c] w fun e w' => ∃ v, e = .returned v ∧ DwR zs w v w' := by
  obtain ⟨W0, hW0⟩ : ∃ W0, W0 = w.alloc (.cells #[.int .i64 0, .slice none 0 0, .slice none 0 0] 25) := ⟨_, rfl⟩
  have hA : Below w.heap.size w W0 := by rw [hW0]; exact belowA w _
  have hX0 : Box3 W0 w.heap.size (.int .i64 0) (.slice none 0 0) (.slice none 0 0) 25 := by rw [hW0]; exact Box3.made w _ _ _ _ _ rfl
  have hs0 : w.heap.size < W0.heap.size := hX0.lt
  have hv0 := hv.below hA
  go_enter Try.func17, Try.ntmps17
  go_wp2_with fail
  rw [← hW0]
  clear hW0 hv
  refine (l1Begin_x a c zs W0 hv0 hl).mono ?_
  rintro e w1 ⟨rfl, hb1⟩
  have hS := SrcX.begun hv0 hl hb1 (bgN zs zs.length) 63
  have hsz := hb1.size
  have hbA := hb1.alloc hb1.size (.cells #[.slice a zs.length c, .int .i64 0, .int .u64 (bgN zs zs.length)] 63)
  have hX1 := hX0.below hbA
  have hB1 := hA.trans (hbA.mono hA.size)
  clear hv0 hb1 hbA hX0 hA
  go_wp2_with fail
  refine (l1DrawDevice_x W0.heap.size w1.heap.size a c zs _ _ hS).mono ?_
  rintro e w2 ⟨dv, rfl, da, dc, ca, cc, lo, hi, S, rfl, hdc, hO2, hP2, hSS, hlo, hs2, hf2⟩
  have hsize := ddR_size zs (0, bgN zs zs.length)
  have HR : Hid (dwR zs = ddR zs (0, bgN zs zs.length)) := rfl
  generalize ddR zs (0, bgN zs zs.length) = r at hsize HR hdc hO2 hP2 hs2 ⊢
  obtain ⟨⟨B, D, ps⟩, p1⟩ := r
  simp only at hsize hdc hO2 hP2 hs2 ⊢
  have hsA : (w1.alloc (.cells #[.slice a zs.length c, .int .i64 0, .int .u64 (bgN zs zs.length)] 63)).heap.size = w1.heap.size + 1 := by simp
  rw [hsA] at hSS hlo
  have hX2 : Box3 w2 w.heap.size (.int .i64 0) (.slice none 0 0) (.slice none 0 0) 25 := (hf2.block _ hX1.lt (by omega)).trans hX1
  have hB2 : Below w.heap.size w w2 := hB1.trans (hf2.below (by omega) (fun k e => by omega))
  have hs12 := hf2.size
  rw [hsA] at hs12
  have hbA := belowA w2 (.cells #[.int .i64 B, .slice da D.length dc, .slice ca ps.length cc] 25)
  have hPL : PRow (fun q => S q ∧ q < w2.heap.size) w2 (.slice ca ps.length cc) ps := hP2.wider fun q q1 q2 => ⟨q1, q2⟩
  have hI3 : DwI w1.heap.size w w2.heap.size lo (min hi (w2.heap.size + 1)) (w2.heap.size + 1) (fun q => S q ∧ q < w2.heap.size) B (.slice da D.length dc) D (.slice ca ps.length cc) ps (w2.alloc (.cells #[.int .i64 B, .slice da D.length dc, .slice ca ps.length cc] 25)) :=
    ⟨hX2.below hbA, Box3.made _ _ _ _ _ _ rfl, (hO2.low).below hbA, hPL.below hbA, ⟨by omega, by omega, by omega, by simp, by omega, by omega⟩, fun q e => ⟨by have := (hSS q e.1).1; omega, by have := (hSS q e.1).2; omega⟩, fun q e => e.2, hB2.trans (hbA.mono hB2.size)⟩
  have hs3 := hs2.below hbA
  have hsW : (w2.alloc (.cells #[.int .i64 B, .slice da D.length dc, .slice ca ps.length cc] 25)).heap.size = w2.heap.size + 1 := by simp
  go_wp2_with fail
  refine (l1DrawBlock_x W0.heap.size w1.heap.size a c zs p1 _ hs3).mono ?_
  rintro e w4 ⟨u, rfl, hD4⟩
  have hrow := hD4.row
  rw [hsW] at hrow
  have hnum := hD4.num
  have hI4 := hI3.step hD4.frm (fun k e => by rw [hsW] at e; omega)
  have hs4 := hD4.src
  clear hD4 hI3 hs3 hbA hX2 hB2 hO2 hP2 hPL hs2 hf2 hX1 hB1 hS
  go_wp2_with fail
  refine (l1Next_x W0.heap.size w1.heap.size a c zs _ 12 (by decide) (by decide) _ hs4).mono ?_
  rintro e w5 ⟨rfl, hsrc, hf5⟩
  have hI5 := hI4.step hf5 (fun k e => .inl e)
  have hrow5 := hrow.frm hf5 (fun k e1 e2 => by omega)
  clear hI4 hs4 hf5 hrow
  have HDW : Hid (dwD zs = if nxV zs (adv zs p1 3) 12 = 0 then (dbl zs p1).drop 1 else if nxV zs (adv zs p1 3) 12 = 1 then dbl zs p1 ++ [7] else dbl zs p1) := by rw [Hid, dwD, HR.out]
  have hbl := dbl_length zs p1
  obtain ⟨gb, bc, rfl, hgS, hgl, hcap, hOb, -⟩ := hrow5.own hnum
  rw [hbl] at hcap hOb
  rw [hbl] at hrow5 ⊢
  generalize nxV zs (adv zs p1 3) 12 = k at HDW ⊢
  by_cases h0 : k = 0
  · subst h0
    have HD0 : Hid (dwD zs = (dbl zs p1).drop 1) := HDW.out
    obtain ⟨bcl, rfl⟩ : ∃ bcl, bc = bcl + 1 := ⟨bc - 1, by omega⟩
    have hbc0 : ¬ bcl = 0 := by omega
    have hO1 := hOb.drop1 (by decide) 127 bcl rfl
    have HBL : Hid ((dbl zs p1).length = 128) := hbl
    clear hbl hrow5 HDW
    have hI5d : DwI w1.heap.size w w2.heap.size lo (min hi (w2.heap.size + 1)) (w2.heap.size + 1) (fun q => S q ∧ q < w2.heap.size) B (.slice da D.length dc) D (.slice ca ps.length cc) ps w5.drew := hI5.step (T := fun _ => False) ⟨rfl, rfl, rfl, Nat.le_refl _, fun _ _ _ => rfl⟩ (fun _ e => e.elim)
    have hsd : SrcX W0.heap.size w1.heap.size a c zs (nxS zs (adv zs p1 3)) w5.drew := hsrc.heap rfl
    have HQ : Hid (noV zs (nxS zs (adv zs p1 3)) B = dwQ zs) := by rw [Hid, dwQ, HR.out]
    have hne2 : w2.heap.size ≠ w.heap.size := by omega
    obtain ⟨z0, z1, z2⟩ := hI5.box.cells
    have HI5 : Hid _ := hI5d
    have HSR : Hid _ := hsd
    clear hI5 hsrc hI5d hsd
    go_wp2_with fail
    go_region_held3 (fun w' => w'.cell? ⟨w2.heap.size, 0, none⟩ = some (.int .i64 B) ∧ w'.cell? ⟨w2.heap.size, 1, none⟩ = some (.slice da D.length dc) ∧ w'.cell? ⟨w2.heap.size, 2, none⟩ = some (.slice ca ps.length cc)) (first | go_keep | assumption | exact ⟨z0, z1, z2⟩ | exact cells3_far (by assumption) hne2 _ _ _) ((go_at_call 40; refine (l1DrawBlockNo_x W0.heap.size w1.heap.size a c zs _ B (by omega) (by omega) _ HSR.out).mono ?_; rintro e w9 ⟨rfl, hf9⟩; have hI9 := HI5.out.step hf9 (fun k e => .inl e); have hq := hI9.box.cells; have hres := hI9.res; obtain ⟨q0, q1, q2⟩ := hres.cells; have qf := hres.free))
    have hb9 : Bts w9 (.slice (some ⟨gb, 1, none⟩) 127 bcl) ((dbl zs p1).drop 1) := ((hO1.below (Below.refl _ _).drew).kept hf9.size (fun q q1 q2 q3 => hf9.block q q3 (by omega))).bts
    rw [HQ.out]
    have hend := fun x y z => hI9.fin (zs := zs) hdc HR.out HD0.out (by first | rfl | simp [dbl_length]) hb9 (fun b off e _ => by simp only [Option.some.injEq, Addr.mk.injEq, and_true] at e; omega) x y z
    have e0 := fun x => World.cell?_setCell_same w9 ⟨w.heap.size, 0, none⟩ x q0
    have e1 := fun x y => World.cell?_setCell_same (w9.setCell ⟨w.heap.size, 0, none⟩ x) ⟨w.heap.size, 1, none⟩ y ((set_ne _ _ _ _ _ (by decide)).trans q1)
    have e2 := fun x y z => World.cell?_setCell_same ((w9.setCell ⟨w.heap.size, 0, none⟩ x).setCell ⟨w.heap.size, 1, none⟩ y) ⟨w.heap.size, 2, none⟩ z (((set_ne _ _ _ _ _ (by decide)).trans (set_ne _ _ _ _ _ (by decide))).trans q2)
    generalize dwQ zs = qq at hend ⊢
    clear hI9 hb9 hf9 HQ
    go_wp2
    refine bodyPost_ret (v := .tuple #[.agg #[.int .i64 B, .slice da D.length dc, .slice ca ps.length cc], .int .i64 qq, .slice (some ⟨gb, 1, none⟩) 127 bcl]) (by simp [results, Try.results17, go_sem, e0, e1, e2]) rfl ?_
    exact ⟨_, rfl, hend _ _ _⟩
  · have h0' : (k == 0) = false := by simpa using h0
    by_cases h1 : k = 1
    · subst h1
      have HD0 : Hid (dwD zs = dbl zs p1 ++ [7]) := HDW.out
      have hyl : (dbl zs p1).length < 8589934592 := by omega
      have HBL : Hid ((dbl zs p1).length = 128) := hbl
      have hS5 : ∀ b, w5.heap.size ≤ b → w2.heap.size + 1 ≤ b := fun b e => by have := hI5.at1; omega
      clear hbl HDW
      go_wp2_with (first | (at_builtin; refine wpList_appendB rfl _ _ rfl _ hrow5 rfl rfl hyl hS5 ?_; intro v2 w6 hR6 hF6) | go_in | fail)
      have hI6 := hI5.step hF6 (fun k e => .inr e)
      have a6 := hI6.at1
      have hs6 := hsrc.frm hF6 (by omega) (fun b e => by omega)
      obtain ⟨gb2, bc2, rfl, hgS2, hgl2, hcap2, hOb2, -⟩ := hR6.own (byt_snoc hnum (by decide))
      have h129 : (dbl zs p1 ++ [7]).length = 129 := by rw [List.length_append, HBL.out]; rfl
      rw [h129] at hOb2 ⊢
      clear hI5 hsrc hrow5 hR6 hF6 h129
      have hI5 := hI6
      have hsrc := hs6
      clear hI6 hs6
      have hI5d : DwI w1.heap.size w w2.heap.size lo (min hi (w2.heap.size + 1)) (w2.heap.size + 1) (fun q => S q ∧ q < w2.heap.size) B (.slice da D.length dc) D (.slice ca ps.length cc) ps w6.drew := hI5.step (T := fun _ => False) ⟨rfl, rfl, rfl, Nat.le_refl _, fun _ _ _ => rfl⟩ (fun _ e => e.elim)
      have hsd : SrcX W0.heap.size w1.heap.size a c zs (nxS zs (adv zs p1 3)) w6.drew := hsrc.heap rfl
      have HQ : Hid (noV zs (nxS zs (adv zs p1 3)) B = dwQ zs) := by rw [Hid, dwQ, HR.out]
      have hne2 : w2.heap.size ≠ w.heap.size := by omega
      obtain ⟨z0, z1, z2⟩ := hI5.box.cells
      have HI5 : Hid _ := hI5d
      have HSR : Hid _ := hsd
      clear hI5 hsrc hI5d hsd
      go_wp2_with fail
      go_region_held3 (fun w' => w'.cell? ⟨w2.heap.size, 0, none⟩ = some (.int .i64 B) ∧ w'.cell? ⟨w2.heap.size, 1, none⟩ = some (.slice da D.length dc) ∧ w'.cell? ⟨w2.heap.size, 2, none⟩ = some (.slice ca ps.length cc)) (first | go_keep | assumption | exact ⟨z0, z1, z2⟩ | exact cells3_far (by assumption) hne2 _ _ _) ((go_at_call 40; refine (l1DrawBlockNo_x W0.heap.size w1.heap.size a c zs _ B (by omega) (by omega) _ HSR.out).mono ?_; rintro e w9 ⟨rfl, hf9⟩; have hI9 := HI5.out.step hf9 (fun k e => .inl e); have hq := hI9.box.cells; have hres := hI9.res; obtain ⟨q0, q1, q2⟩ := hres.cells; have qf := hres.free))
      have hb9 : Bts w9 (.slice (some ⟨gb2, 0, none⟩) 129 bc2) (dbl zs p1 ++ [7]) := ((hOb2.below (Below.refl _ _).drew).kept hf9.size (fun q q1 q2 q3 => hf9.block q q3 (by omega))).bts
      rw [HQ.out]
      have hend := fun x y z => hI9.fin (zs := zs) hdc HR.out HD0.out (by first | rfl | simp [dbl_length]) hb9 (fun b off e _ => by simp only [Option.some.injEq, Addr.mk.injEq, and_true] at e; omega) x y z
      have e0 := fun x => World.cell?_setCell_same w9 ⟨w.heap.size, 0, none⟩ x q0
      have e1 := fun x y => World.cell?_setCell_same (w9.setCell ⟨w.heap.size, 0, none⟩ x) ⟨w.heap.size, 1, none⟩ y ((set_ne _ _ _ _ _ (by decide)).trans q1)
      have e2 := fun x y z => World.cell?_setCell_same ((w9.setCell ⟨w.heap.size, 0, none⟩ x).setCell ⟨w.heap.size, 1, none⟩ y) ⟨w.heap.size, 2, none⟩ z (((set_ne _ _ _ _ _ (by decide)).trans (set_ne _ _ _ _ _ (by decide))).trans q2)
      generalize dwQ zs = qq at hend ⊢
      clear hI9 hb9 hf9 HQ
      go_wp2
      refine bodyPost_ret (v := .tuple #[.agg #[.int .i64 B, .slice da D.length dc, .slice ca ps.length cc], .int .i64 qq, .slice (some ⟨gb2, 0, none⟩) 129 bc2]) (by simp [results, Try.results17, go_sem, e0, e1, e2]) rfl ?_
      exact ⟨_, rfl, hend _ _ _⟩
    · have h1' : (k == 1) = false := by simpa using h1
      have HD0 : Hid (dwD zs = dbl zs p1) := by rw [Hid, HDW.out, if_neg h0, if_neg h1]
      have HBL : Hid ((dbl zs p1).length = 128) := hbl
      clear hbl hrow5 HDW
      have hI5d : DwI w1.heap.size w w2.heap.size lo (min hi (w2.heap.size + 1)) (w2.heap.size + 1) (fun q => S q ∧ q < w2.heap.size) B (.slice da D.length dc) D (.slice ca ps.length cc) ps w5.drew := hI5.step (T := fun _ => False) ⟨rfl, rfl, rfl, Nat.le_refl _, fun _ _ _ => rfl⟩ (fun _ e => e.elim)
      have hsd : SrcX W0.heap.size w1.heap.size a c zs (nxS zs (adv zs p1 3)) w5.drew := hsrc.heap rfl
      have HQ : Hid (noV zs (nxS zs (adv zs p1 3)) B = dwQ zs) := by rw [Hid, dwQ, HR.out]
      have hne2 : w2.heap.size ≠ w.heap.size := by omega
      obtain ⟨z0, z1, z2⟩ := hI5.box.cells
      have HI5 : Hid _ := hI5d
      have HSR : Hid _ := hsd
      clear hI5 hsrc hI5d hsd
      go_wp2_with fail
      go_region_held3 (fun w' => w'.cell? ⟨w2.heap.size, 0, none⟩ = some (.int .i64 B) ∧ w'.cell? ⟨w2.heap.size, 1, none⟩ = some (.slice da D.length dc) ∧ w'.cell? ⟨w2.heap.size, 2, none⟩ = some (.slice ca ps.length cc)) (first | go_keep | assumption | exact ⟨z0, z1, z2⟩ | exact cells3_far (by assumption) hne2 _ _ _) ((go_at_call 40; refine (l1DrawBlockNo_x W0.heap.size w1.heap.size a c zs _ B (by omega) (by omega) _ HSR.out).mono ?_; rintro e w9 ⟨rfl, hf9⟩; have hI9 := HI5.out.step hf9 (fun k e => .inl e); have hq := hI9.box.cells; have hres := hI9.res; obtain ⟨q0, q1, q2⟩ := hres.cells; have qf := hres.free))
      have hb9 : Bts w9 (.slice (some ⟨gb, 0, none⟩) 128 bc) (dbl zs p1) := ((hOb.below (Below.refl _ _).drew).kept hf9.size (fun q q1 q2 q3 => hf9.block q q3 (by omega))).bts
      rw [HQ.out]
      have hend := fun x y z => hI9.fin (zs := zs) hdc HR.out HD0.out (by first | rfl | simp [dbl_length]) hb9 (fun b off e _ => by simp only [Option.some.injEq, Addr.mk.injEq, and_true] at e; omega) x y z
      have e0 := fun x => World.cell?_setCell_same w9 ⟨w.heap.size, 0, none⟩ x q0
      have e1 := fun x y => World.cell?_setCell_same (w9.setCell ⟨w.heap.size, 0, none⟩ x) ⟨w.heap.size, 1, none⟩ y ((set_ne _ _ _ _ _ (by decide)).trans q1)
      have e2 := fun x y z => World.cell?_setCell_same ((w9.setCell ⟨w.heap.size, 0, none⟩ x).setCell ⟨w.heap.size, 1, none⟩ y) ⟨w.heap.size, 2, none⟩ z (((set_ne _ _ _ _ _ (by decide)).trans (set_ne _ _ _ _ _ (by decide))).trans q2)
      generalize dwQ zs = qq at hend ⊢
      clear hI9 hb9 hf9 HQ
      go_wp2
      refine bodyPost_ret (v := .tuple #[.agg #[.int .i64 B, .slice da D.length dc, .slice ca ps.length cc], .int .i64 qq, .slice (some ⟨gb, 0, none⟩) 128 bc]) (by simp [results, Try.results17, go_sem, e0, e1, e2]) rfl ?_
      exact ⟨_, rfl, hend _ _ _⟩
end Go.Proofs.Ytbadedhliplkeaa
