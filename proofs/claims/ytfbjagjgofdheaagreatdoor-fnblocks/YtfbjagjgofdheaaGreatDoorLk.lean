import Derived.Test.YtfbjagjgofdheaaGreatDoorLj
import Derived.Test.YtfbjagjgofdheaaGreatDoorLe
namespace Go.Proofs.YtfbjagjgofdheaaGreatDoor
open Go.RowKit
set_option linter.unusedVariables false

set_option maxRecDepth 100000 in
set_option maxHeartbeats 1000000 in
/-- some text -/
theorem l2Cut_some (b off c at' width : Nat) (zs : List Int) (w : World) (hv : Bts w (.slice (some ⟨b, off, none⟩) zs.length c) zs) (hw : width ≤ 12) (hn : at' + 1 + width < zs.length) (hl : zs.length ≤ 1048576) (hc0 : zs.length < c + 1) :
    Calls Tryz.prog 20 #[.slice (some ⟨b, off, none⟩) zs.length c, .int .i64 at', .int .i64 width] w fun e w' => (∃ s, e = .returned (.string s)) ∧ w = w' := by
  have hsm := hv.small
  obtain ⟨_, _, he, hc⟩ := hv.shape
  simp only [Value.slice.injEq, true_and] at he
  obtain ⟨rfl, rfl⟩ := he
  obtain ⟨b', off', ha, hcell⟩ := hc (by omega)
  simp only [Option.some.injEq, Addr.mk.injEq, and_true] at ha
  obtain ⟨rfl, rfl⟩ := ha
  have c0 := hcell at' (by omega)
  have q := hsm at'
  obtain ⟨m, hm⟩ : ∃ m : Nat, zs.getD at' 0 = m := ⟨(zs.getD at' 0).toNat, by omega⟩
  rw [hm] at c0 q
  have hi : (at' : Int) < (zs.length : Int) := by omega
  have w1 : IntKind.i64.wrap (m : Int) = m := IntWalk.i64_in _ ⟨by omega, by omega⟩
  have w2 : IntKind.i64.wrap ((at' : Int) + 1) = ((at' + 1 : Nat) : Int) := (IntWalk.i64_in _ ⟨by omega, by omega⟩).trans (by omega)
  have hcv : ∀ n, n ≤ 12 → at' + 1 + n ≤ zs.length → ∃ s, (convert 22 9 (.slice (some ⟨b, off + (at' + 1), none⟩) n (c - (at' + 1)))).run Tryz.prog w = .ok (.string s) w := fun n hn2 hn3 => by
    by_cases h0 : n = 0
    · subst h0
      exact ⟨_, conv_nil (w := w) ⟨b, off + (at' + 1), none⟩ _⟩
    · have hB : Bts w (.slice (some ⟨b, off + (at' + 1), none⟩) n (c - (at' + 1))) ((zs.drop (at' + 1)).take n) := by
        have hl : ((zs.drop (at' + 1)).take n).length = n := by simp; omega
        have hg : ∀ i, i < n → ((zs.drop (at' + 1)).take n).getD i 0 = zs.getD (at' + 1 + i) 0 := fun i hi => by
          simp [hi, List.getElem?_drop]
        refine ⟨fun i => ?_, some ⟨b, off + (at' + 1), none⟩, c - (at' + 1), by rw [hl], fun _ => ⟨b, off + (at' + 1), rfl, fun i hi => ?_⟩⟩
        · by_cases hi : i < n
          · rw [hg i hi]; exact hsm _
          · rw [List.getD_eq_getElem?_getD, List.getElem?_eq_none (by omega)]; simp
        · rw [hl] at hi
          rw [hg i hi, Nat.add_assoc]
          exact hcell (at' + 1 + i) (by omega)
      exact ⟨_, conv_any hB (by omega)⟩
  obtain ⟨n, HN⟩ : ∃ n : Nat, Hid (n = if m ≤ width then m else width) := ⟨_, rfl⟩
  have hn2 : n ≤ width := by rw [HN.out]; split <;> omega
  obtain ⟨s, hs⟩ := hcv n (by omega) (by omega)
  have w3 : IntKind.i64.wrap (((at' + 1 : Nat) : Int) + (n : Int)) = ((at' + 1 + n : Nat) : Int) := (IntWalk.i64_in _ ⟨by omega, by omega⟩).trans (by omega)
  have k1 : ((at' + 1 : Nat) : Int) ≤ ((at' + 1 + n : Nat) : Int) := by omega
  have k2 : ((at' + 1 + n : Nat) : Int) ≤ (c : Int) := by omega
  have e1 : at' + 1 + n - (at' + 1) = n := by omega
  have k3 : ¬ c = at' + 1 := by omega
  clear hsm hc hcell hcv hm
  generalize at' + 1 = y at *
  by_cases hgt : (width : Int) < (m : Int)
  · have hne : n = width := by rw [HN.out, if_neg (by omega)]
    subst hne
    generalize y + n = y2 at *
    go_enter Tryz.func20, Tryz.ntmps20
    go_wp2
    go_ret
    exact ⟨⟨_, rfl⟩, rfl⟩
  · have hne : n = m := by rw [HN.out, if_pos (by omega)]
    subst hne
    generalize y + n = y2 at *
    go_enter Tryz.func20, Tryz.ntmps20
    go_wp2
    go_ret
    exact ⟨⟨_, rfl⟩, rfl⟩

theorem specEncN_yes (k : Int) (a : Option Addr) (c : Nat) (es : List E3) (w : World) (hv : NRead w (.slice a es.length c) es) (hok : nodeOK k es) :
    Calls Tryz.prog 22 #[.agg #[.int .i64 k, .slice a es.length c]] w fun e w' => ∃ u, e = .returned (.tuple #[u, .int .i64 0]) ∧ Row8 w.heap.size w' u (nodL k es) ∧ Below w.heap.size w w' := by
  rcases hok.kind.1 with rfl | rfl
  · exact specEncL_yes a c es w hv hok
  · exact specEncI_yes a c es w hv hok

theorem owns_far {W : World} {base : Nat} {t : TypeId} {n k : Nat} {v : Value} {cs : List Value} {eb : Nat} (h : W.ownsRow base t n v k cs) (hv : ∀ g, v.ownBlock = some g → g ≠ eb) (p : Addr) (hp : p.block = eb) (u : Value) : (W.setCell p u).ownsRow base t n v k cs := by
  refine ⟨h.1, ?_⟩
  rcases h.2 with hv' | ⟨g, cap, cur, hv', e1, e2, e3⟩
  · exact .inl hv'
  · exact .inr ⟨g, cap, cur, hv', e1, (Below.heap_setCell _ p _ g (by rw [hp]; exact hv g (by rw [hv']; rfl))).trans e2, e3⟩

/-- spec.DecodeNode at work -/
structure DsN (w W : World) (X : Nat) (kd : Int) (v : Value) (rs : List E3) : Prop where
  res : W.heap[w.heap.size]? = some (.cells #[.int .i64 0, .slice none 0 0] 25 (0, 0))
  box : W.heap[X]? = some (.cells #[.int .i64 kd, v] 25 (0, 0))
  own : W.ownsRow (X + 1) 52 3 v rs.length (rs.flatMap flatE)
  hX : w.heap.size < X
  below : Below w.heap.size w W

set_option maxRecDepth 100000 in
set_option maxHeartbeats 4000000 in
theorem specDecN (a : Option Addr) (c : Nat) (zs : List Int) (w : World) (hv : Bts w (.slice a zs.length c) zs) (hl : zs.length ≤ 1048576) (hc : zs.length ≤ c) :
    Calls Tryz.prog 4 #[.slice a zs.length c] w fun e w' => ((∃ x, e = .returned (.tuple #[.agg #[.int .i64 0, .slice none 0 0], .int .i64 x]) ∧ x ≠ 0) ∨ (∃ kd rs a c, e = .returned (.tuple #[.agg #[.int .i64 kd, .slice a rs.length c], .int .i64 0]) ∧ NRead w' (.slice a rs.length c) rs ∧ nodeOK kd rs ∧ zs = nodL kd rs)) ∧ Below w.heap.size w w' := by
  have hb0 := belowA w (.cells #[.int .i64 0, .slice none 0 0] 25)
  have hx : (w.alloc (.cells #[.int .i64 0, .slice none 0 0] 25)).heap[w.heap.size]? = some (.cells #[.int .i64 0, .slice none 0 0] 25 (0, 0)) := heap_alloc_new _ _
  have HV : Hid (∀ X : World, Below w.heap.size w X → Bts X (.slice a zs.length c) zs) := fun X h => hv.below h
  go_enter Tryz.func4, Tryz.ntmps4
  go_wp2_with fail
  refine (l2Sum_some a c zs _ (HV.out _ hb0) hl hc).mono ?_
  rintro e w1 ⟨⟨x, rfl, hx8⟩, hb1⟩
  have hx1 := (hb1.block _ (Array.getElem?_eq_some_iff.1 hx).1).trans hx
  have hB1 := hb0.trans (hb1.mono hb0.size)
  clear hb0 hx hb1
  by_cases hx0 : x = 0
  case neg =>
    have hxn : (x != 0) = true := by simpa using hx0
    have HXN : Hid (x ≠ 0) := hx0
    have hcy : w1.cell? ⟨w.heap.size, 0, none⟩ = some (.int .i64 0) ∧ w1.cell? ⟨w.heap.size, 1, none⟩ = some (.slice none 0 0) := by simp [World.cell?, hx1]
    obtain ⟨q0, q1⟩ := hcy
    have hfy : ∀ i, w1.frozen? ⟨w.heap.size, i, none⟩ = false := fun i => frozen_of_row w1 _ i _ _ hx1
    have z0 := hfy 0
    have z1 := hfy 1
    have HB3 : Hid (Below w.heap.size w ((w1.setCell ⟨w.heap.size, 0, none⟩ (.int .i64 0)).setCell ⟨w.heap.size, 1, none⟩ (.slice none 0 0))) := ((hB1).setCell (p := ⟨w.heap.size, 0, none⟩) (Nat.le_refl _) _).setCell (p := ⟨w.heap.size, 1, none⟩) (Nat.le_refl _) _
    clear hx1 hB1 hfy hx8 hx0 hv
    go_wp2
    exact bodyPost_ret (v := .tuple #[.agg #[.int .i64 0, .slice none 0 0], .int .i64 x]) (by simp [results, Tryz.results4, go_sem, q0, q1]) rfl ⟨.inl ⟨x, rfl, HXN.out⟩, HB3.out⟩
  subst hx0
  have h8 : zs.length = 128 := hx8 rfl
  rw [h8] at HV
  obtain ⟨_, _, he, hcc⟩ := hv.shape
  simp only [Value.slice.injEq] at he
  obtain ⟨rfl, -, rfl⟩ := he
  obtain ⟨b, off, rfl, hcell⟩ := hcc (by omega)
  have hz1 := hv.small 1
  obtain ⟨m, hm⟩ : ∃ m : Nat, zs.getD 1 0 = m := ⟨(zs.getD 1 0).toNat, by omega⟩
  have HB1 : Hid (∀ X : World, Below w.heap.size w X → X.cell? ⟨b, off + 1, none⟩ = some (.int .u8 m)) := fun X h => by
    have q := hcell 1 (by omega)
    rw [hm] at q
    exact (h.cell (p := ⟨b, off + 1, none⟩) (World.block_lt_of_cell? _ _ q)).trans q
  have HKD0 : ∃ kd : Int, Hid (∀ X : World, Below w.heap.size w X → X.cell? ⟨b, off, none⟩ = some (.int .u8 kd) ∧ IntKind.i64.wrap kd = kd) := by
    have q := hcell 0 (by omega)
    have s0 := hv.small 0
    rw [Nat.add_zero] at q
    exact ⟨_, fun X h => ⟨(h.cell (p := ⟨b, off, none⟩) (World.block_lt_of_cell? _ _ q)).trans q, IntWalk.i64_in _ ⟨by omega, by omega⟩⟩⟩
  have HCU : Hid (∀ X : World, Below w.heap.size w X → Hid (∀ at' width : Nat, at' + 1 + width < 128 → width ≤ 12 → Calls Tryz.prog 20 #[.slice (some ⟨b, off, none⟩) 128 c, .int .i64 at', .int .i64 width] X fun e w' => (∃ s, e = .returned (.string s)) ∧ X = w')) := fun X h at' width h1 h2 => by
    have q := l2Cut_some b off c at' width zs X (hv.below h) h2 (by omega) (by omega) (by omega)
    rw [h8] at q
    exact q
  have hwm : IntKind.i64.wrap (m : Int) = m := IntWalk.i64_in _ ⟨by omega, by omega⟩
  have HA : Hid (∀ X : World, Below w.heap.size w X → Hid (∀ at' width : Nat, at' + width ≤ 128 → width ≤ 8 → Calls Tryz.prog 21 #[.slice (some ⟨b, off, none⟩) 128 c, .int .i64 at', .int .i64 width] X fun e w' => (∃ x, e = .returned (.int .i64 x)) ∧ X = w')) := fun X h at' width h1 h2 => by
    have q := l2At_some b off c at' width zs X (hv.below h) h2 (by omega) (by omega)
    rw [h8] at q
    exact q
  have HBY : Hid (Byt zs) := hv.small
  clear hcc hcell hx8 hv hz1 hm
  rw [h8]
  obtain ⟨kd, HKD⟩ : ∃ kd : Int, Hid (∀ X : World, Below w.heap.size w X → X.cell? ⟨b, off, none⟩ = some (.int .u8 kd) ∧ IntKind.i64.wrap kd = kd) := HKD0
  obtain ⟨p0, hwk⟩ := HKD.out w1 hB1
  have hb3 := belowA w1 (.cells #[.int .i64 kd, .slice none 0 0] 25)
  have hD0 : DsN w (w1.alloc (.cells #[.int .i64 kd, .slice none 0 0] 25)) w1.heap.size kd (.slice none 0 0) [] := ⟨(hb3.block _ (Array.getElem?_eq_some_iff.1 hx1).1).trans hx1, heap_alloc_new _ _, World.ownsRow_nil _ _ _ _, (Array.getElem?_eq_some_iff.1 hx1).1, hB1.trans (hb3.mono hB1.size)⟩
  obtain ⟨X, HXX⟩ : ∃ X, Hid (w1.heap.size = X) := ⟨_, rfl⟩
  rw [HXX.out] at hD0
  have HD0 : Hid _ := hD0
  clear hx1 hB1 hb3 hD0
  go_wp2_with fail
  rw [HXX.out]
  generalize w1.alloc (.cells #[.int .i64 kd, .slice none 0 0] 25) = W0 at *
  go_loopw [6, 7, 8] (fun i _ _ wr => ∃ (rs : List E3) (v : Value), rs.length ≤ 5 ∧ i = .int .i64 rs.length ∧ DsN w wr X kd v rs) (fun i _ _ _ => 5 - (intOf i).toNat)
  case atStart => exact ⟨[], _, by simp, rfl, HD0.out⟩
  case round =>
    obtain ⟨rs, v, hk, rfl, hD⟩ := hrel
    clear HD0
    obtain ⟨k, hkk⟩ : ∃ k, rs.length = k := ⟨_, rfl⟩
    obtain ⟨va, vc, hva, hvf⟩ := owns_form hD.own
    rw [hkk] at hva hk ⊢
    subst hva
    have hbx := hD.box
    have hlt : X < wr.heap.size := (Array.getElem?_eq_some_iff.1 hbx).1
    have b1 := HB1.out wr hD.below
    have HAA := HA.out wr hD.below
    have hown := hD.own
    have hres := hD.res
    have hXX := hD.hX
    have hbw := hD.below
    rw [hkk] at hown
    clear hD
    by_cases hgo : k < m ∧ k < 5
    · have hg1 : (k : Int) < (m : Int) := by omega
      have hg2 : (k : Int) < 5 := by omega
      have xv : wr.cell? ⟨X, 1, none⟩ = some (.slice va k vc) := (cell_of_row wr X 1 _ _ _ hbx).trans rfl
      obtain ⟨y, HY⟩ : ∃ y : Nat, Hid (y = 4 + 24 * k) := ⟨_, rfl⟩
      obtain ⟨y2, HY2⟩ : ∃ y2 : Nat, Hid (y2 = y + 13) := ⟨_, rfl⟩
      have m1 : IntKind.i64.wrap (24 * (k : Int)) = 24 * (k : Int) := IntWalk.i64_in _ ⟨by omega, by omega⟩
      have m2 : IntKind.i64.wrap (4 + 24 * (k : Int)) = (y : Int) := (IntWalk.i64_in _ ⟨by omega, by omega⟩).trans (by have := HY.out; omega)
      have m3 : IntKind.i64.wrap ((y : Int) + 13) = (y2 : Int) := (IntWalk.i64_in _ ⟨by omega, by have := HY.out; omega⟩).trans (by have := HY2.out; omega)
      have xk : wr.cell? ⟨X, 0, none⟩ = some (.int .i64 kd) := (cell_of_row wr X 0 _ _ _ hbx).trans rfl
      have hcut := (HCU.out wr hbw).out y 12 (by have := HY.out; omega) (by omega)
      have HC2 : Hid (∀ X : World, Below w.heap.size w X → Calls Tryz.prog 20 #[.slice (some ⟨b, off, none⟩) 128 c, .int .i64 y2, .int .i64 10] X fun e w' => (∃ s, e = .returned (.string s)) ∧ X = w') := fun X h => (HCU.out X h).out y2 10 (by have := HY.out; have := HY2.out; omega) (by omega)
      have HC3 : Hid (∀ X : World, Below w.heap.size w X → Calls Tryz.prog 21 #[.slice (some ⟨b, off, none⟩) 128 c, .int .i64 y2, .int .i64 2] X fun e w' => (∃ x, e = .returned (.int .i64 x)) ∧ X = w') := fun X h => (HA.out X h).out y2 2 (by have := HY.out; have := HY2.out; omega) (by omega)
      go_wp2_with fail
      refine hcut.mono ?_
      rintro e w2 ⟨⟨sx, rfl⟩, rfl⟩
      clear hcut
      go_upto_region 10 with fail
      have hbA := belowA wr (.cells #[.string sx, .string ByteArray.empty, .int .i64 0] 52)
      have hE5 := heap_alloc_new wr (.cells #[.string sx, .string ByteArray.empty, .int .i64 0] 52)
      have hX5 := (hbA.block X hlt).trans hbx
      have hr5 := (hbA.block _ (Array.getElem?_eq_some_iff.1 hres).1).trans hres
      have hB5 := hbw.trans (hbA.mono hbw.size)
      have hown5 := owns_below hown hbA
      have HOB : Hid (∀ g, (Value.slice va k vc).ownBlock = some g → g ≠ wr.heap.size) := fun g hg => by have := World.ownsRow.lt hown g hg; omega
      have hsz5 : wr.heap.size < (wr.alloc (.cells #[.string sx, .string ByteArray.empty, .int .i64 0] 52)).heap.size := by simp
      clear hbA hbx hres hbw hown b1 xk xv
      obtain ⟨W5, HW5⟩ : ∃ W5, Hid (wr.alloc (.cells #[.string sx, .string ByteArray.empty, .int .i64 0] 52) = W5) := ⟨_, rfl⟩
      rw [HW5.out] at hE5 hX5 hr5 hB5 hown5 hsz5
      have HW5' : wr.alloc (.cells #[.string sx, .string { data := #[] }, .int .i64 0] 52) = W5 := HW5.out
      rw [HW5']
      clear HW5' HW5
      generalize wr.heap.size = eb at *
      have xk5 : W5.cell? ⟨X, 0, none⟩ = some (.int .i64 kd) := (cell_of_row W5 X 0 _ _ _ hX5).trans rfl
      have e51 : W5.cell? ⟨eb, 1, none⟩ = some (.string ByteArray.empty) := (cell_of_row W5 eb 1 _ _ _ hE5).trans rfl
      have e52 : W5.cell? ⟨eb, 2, none⟩ = some (.int .i64 0) := (cell_of_row W5 eb 2 _ _ _ hE5).trans rfl
      have ef1 : W5.frozen? ⟨eb, 1, none⟩ = false := frozen_of_row W5 eb _ _ _ hE5
      have ef2 : W5.frozen? ⟨eb, 2, none⟩ = false := frozen_of_row W5 eb _ _ _ hE5
      by_cases hk1 : kd = 1
      · have hkb : (kd == 1) = true := by simp [hk1]
        have hq2 := HC2.out W5 hB5
        clear hk1
        go_wp2_with fail
        refine hq2.mono ?_
        rintro e w6 ⟨⟨sy, rfl⟩, rfl⟩
        go_upto_region 13 with fail
        obtain ⟨W6, HW6⟩ : ∃ W6, Hid (W5.setCell ⟨eb, 1, none⟩ (.string sy) = W6) := ⟨_, rfl⟩
        have hE6 : W6.heap[eb]? = some (.cells #[.string sx, .string sy, .int .i64 0] 52 (0, 0)) := by rw [← HW6.out]; simpa using heap_setCell_same W5 eb 1 _ _ (.string sy) hE5
        have hX6 : W6.heap[X]? = some (.cells #[.int .i64 kd, .slice va k vc] 25 (0, 0)) := by rw [← HW6.out]; exact (Below.heap_setCell _ ⟨eb, 1, none⟩ _ _ (by show X ≠ eb; omega)).trans hX5
        have hr6 : W6.heap[w.heap.size]? = some (.cells #[.int .i64 0, .slice none 0 0] 25 (0, 0)) := by rw [← HW6.out]; exact (Below.heap_setCell _ ⟨eb, 1, none⟩ _ _ (by show w.heap.size ≠ eb; omega)).trans hr5
        have hB6 : Below w.heap.size w W6 := by rw [← HW6.out]; exact hB5.setCell (p := ⟨eb, 1, none⟩) (by show w.heap.size ≤ eb; omega) _
        have hown6 : W6.ownsRow (X + 1) 52 3 (.slice va k vc) k (rs.flatMap flatE) := by rw [← HW6.out]; exact owns_far hown5 HOB.out _ rfl _
        have hs6 : X < W6.heap.size := (Array.getElem?_eq_some_iff.1 hX6).1
        rw [HW6.out]
        clear HW6 hE5 hX5 hr5 hB5 hown5 xk5 e51 e52 ef1 ef2 hq2 hsz5
        obtain ⟨W7, HW7⟩ : ∃ W7, Hid (W6.alloc (.cells #[.string sx, .string sy, .int .i64 0] 52) = W7) := ⟨_, rfl⟩
        have hb7 : Below W6.heap.size W6 W7 := by rw [← HW7.out]; exact belowA _ _
        have hnw : W7.heap[W6.heap.size]? = some (.cells #[.string sx, .string sy, .int .i64 0] 52 (0, 0)) := by rw [← HW7.out]; exact heap_alloc_new _ _
        have hX7 := (hb7.block X (by omega)).trans hX6
        have hr7 := (hb7.block _ (Array.getElem?_eq_some_iff.1 hr6).1).trans hr6
        have hB7 : Below w.heap.size w W7 := hB6.trans (hb7.mono hB6.size)
        have HOWN7 : Hid _ := owns_below hown6 hb7
        have HLB : Hid (X + 1 ≤ W7.heap.size) := by have := hb7.size; unfold Hid; omega
        have HNW : Hid _ := hnw
        have x6 : W6.cell? ⟨X, 1, none⟩ = some (.slice va k vc) := (cell_of_row W6 X 1 _ _ _ hX6).trans rfl
        have e60 : W6.cell? ⟨eb, 0, none⟩ = some (.string sx) := (cell_of_row W6 eb 0 _ _ _ hE6).trans rfl
        have e61 : W6.cell? ⟨eb, 1, none⟩ = some (.string sy) := (cell_of_row W6 eb 1 _ _ _ hE6).trans rfl
        have e62 : W6.cell? ⟨eb, 2, none⟩ = some (.int .i64 0) := (cell_of_row W6 eb 2 _ _ _ hE6).trans rfl
        clear hnw hb7 hX6 hr6 hB6 hown6 hE6
        go_wp2_with (first | (at_builtin; rw [HW7.out]; refine wpList_appendT rfl _ _ 23 52 _ 3 40 Tryz.underlying23 infoEntry rfl (by decide) rfl (base := X + 1) HOWN7.out rfl ⟨W6.heap.size, 0, none⟩ 1 1 rfl [.string sx, .string sy, .int .i64 0] rfl (by intro j u hj; rw [Addr.add_mid, Nat.zero_add]; simpa [World.cell?, HNW.out] using hj) (fun u hm => List.all_eq_true.1 (show ([.string sx, .string sy, .int .i64 0] : List Value).all (·.oneCell') = true from rfl) u hm) (by omega) (by omega) HLB.out ?_; intro v' w3 hown3 hns3 hbl3; have hX3 := hns3.cells hX7 (by decide); have y1 : w3.cell? ⟨X, 1, none⟩ = some (.slice va k vc) := (cell_of_row w3 X 1 _ _ _ hX3).trans rfl; have yf : w3.frozen? ⟨X, 1, none⟩ = false := frozen_of_row w3 X _ _ _ hX3; obtain ⟨ya, yc, rfl, hyf⟩ := owns_form hown3) | go_in)
        have hown4 : w3.ownsRow (X + 1) 52 3 (.slice ya (k + 1) yc) (k + 1) ((rs ++ [(sx, sy, 0)]).flatMap flatE) := by rw [flat_snoc]; exact hown3
        have hr3 := hns3.cells hr7 (by decide)
        have hbw3 : Below w.heap.size w w3 := hB7.trans (hbl3.mono (by omega))
        have hX4 : (w3.setCell ⟨X, 1, none⟩ (.slice ya (k + 1) yc)).heap[X]? = some (.cells #[.int .i64 kd, .slice ya (k + 1) yc] 25 (0, 0)) := by simpa using heap_setCell_same w3 X 1 _ _ (.slice ya (k + 1) yc) hX3
        have HD4 : Hid (DsN w (w3.setCell ⟨X, 1, none⟩ (.slice ya (k + 1) yc)) X kd (.slice ya (k + 1) yc) (rs ++ [(sx, sy, 0)])) := by
          refine ⟨(Below.heap_setCell _ ⟨X, 1, none⟩ _ _ (by show w.heap.size ≠ X; omega)).trans hr3, hX4, ?_, hXX, hbw3.setCell (p := ⟨X, 1, none⟩) (by show w.heap.size ≤ X; omega) _⟩
          rw [List.length_append, hkk]
          exact owns_set hown4 _ (by show X < X + 1; omega) _
        clear y1 yf hX3 hr3 hX4 hown4 hown3
        go_roundw
        case rel => exact ⟨rs ++ [(sx, sy, 0)], _, by rw [List.length_append, hkk]; show k + 1 ≤ 5; omega, by rw [List.length_append, hkk]; first | rfl | go_num, HD4.out⟩
        case measure => simp [intOf]; omega
      · have hkb : (kd == 1) = false := by simpa using hk1
        have hq2 := HC3.out W5 hB5
        clear hk1
        go_wp2_with fail
        refine hq2.mono ?_
        rintro e w6 ⟨⟨sz, rfl⟩, rfl⟩
        go_upto_region 13 with fail
        obtain ⟨W6, HW6⟩ : ∃ W6, Hid (W5.setCell ⟨eb, 2, none⟩ (.int .i64 sz) = W6) := ⟨_, rfl⟩
        have hE6 : W6.heap[eb]? = some (.cells #[.string sx, .string ByteArray.empty, .int .i64 sz] 52 (0, 0)) := by rw [← HW6.out]; simpa using heap_setCell_same W5 eb 2 _ _ (.int .i64 sz) hE5
        have hX6 : W6.heap[X]? = some (.cells #[.int .i64 kd, .slice va k vc] 25 (0, 0)) := by rw [← HW6.out]; exact (Below.heap_setCell _ ⟨eb, 2, none⟩ _ _ (by show X ≠ eb; omega)).trans hX5
        have hr6 : W6.heap[w.heap.size]? = some (.cells #[.int .i64 0, .slice none 0 0] 25 (0, 0)) := by rw [← HW6.out]; exact (Below.heap_setCell _ ⟨eb, 2, none⟩ _ _ (by show w.heap.size ≠ eb; omega)).trans hr5
        have hB6 : Below w.heap.size w W6 := by rw [← HW6.out]; exact hB5.setCell (p := ⟨eb, 2, none⟩) (by show w.heap.size ≤ eb; omega) _
        have hown6 : W6.ownsRow (X + 1) 52 3 (.slice va k vc) k (rs.flatMap flatE) := by rw [← HW6.out]; exact owns_far hown5 HOB.out _ rfl _
        have hs6 : X < W6.heap.size := (Array.getElem?_eq_some_iff.1 hX6).1
        rw [HW6.out]
        clear HW6 hE5 hX5 hr5 hB5 hown5 xk5 e51 e52 ef1 ef2 hq2 hsz5
        obtain ⟨W7, HW7⟩ : ∃ W7, Hid (W6.alloc (.cells #[.string sx, .string ByteArray.empty, .int .i64 sz] 52) = W7) := ⟨_, rfl⟩
        have hb7 : Below W6.heap.size W6 W7 := by rw [← HW7.out]; exact belowA _ _
        have hnw : W7.heap[W6.heap.size]? = some (.cells #[.string sx, .string ByteArray.empty, .int .i64 sz] 52 (0, 0)) := by rw [← HW7.out]; exact heap_alloc_new _ _
        have hX7 := (hb7.block X (by omega)).trans hX6
        have hr7 := (hb7.block _ (Array.getElem?_eq_some_iff.1 hr6).1).trans hr6
        have hB7 : Below w.heap.size w W7 := hB6.trans (hb7.mono hB6.size)
        have HOWN7 : Hid _ := owns_below hown6 hb7
        have HLB : Hid (X + 1 ≤ W7.heap.size) := by have := hb7.size; unfold Hid; omega
        have HNW : Hid _ := hnw
        have x6 : W6.cell? ⟨X, 1, none⟩ = some (.slice va k vc) := (cell_of_row W6 X 1 _ _ _ hX6).trans rfl
        have e60 : W6.cell? ⟨eb, 0, none⟩ = some (.string sx) := (cell_of_row W6 eb 0 _ _ _ hE6).trans rfl
        have e61 : W6.cell? ⟨eb, 1, none⟩ = some (.string ByteArray.empty) := (cell_of_row W6 eb 1 _ _ _ hE6).trans rfl
        have e62 : W6.cell? ⟨eb, 2, none⟩ = some (.int .i64 sz) := (cell_of_row W6 eb 2 _ _ _ hE6).trans rfl
        clear hnw hb7 hX6 hr6 hB6 hown6 hE6
        go_wp2_with (first | (at_builtin; rw [HW7.out]; refine wpList_appendT rfl _ _ 23 52 _ 3 40 Tryz.underlying23 infoEntry rfl (by decide) rfl (base := X + 1) HOWN7.out rfl ⟨W6.heap.size, 0, none⟩ 1 1 rfl [.string sx, .string ByteArray.empty, .int .i64 sz] rfl (by intro j u hj; rw [Addr.add_mid, Nat.zero_add]; simpa [World.cell?, HNW.out] using hj) (fun u hm => List.all_eq_true.1 (show ([.string sx, .string ByteArray.empty, .int .i64 sz] : List Value).all (·.oneCell') = true from rfl) u hm) (by omega) (by omega) HLB.out ?_; intro v' w3 hown3 hns3 hbl3; have hX3 := hns3.cells hX7 (by decide); have y1 : w3.cell? ⟨X, 1, none⟩ = some (.slice va k vc) := (cell_of_row w3 X 1 _ _ _ hX3).trans rfl; have yf : w3.frozen? ⟨X, 1, none⟩ = false := frozen_of_row w3 X _ _ _ hX3; obtain ⟨ya, yc, rfl, hyf⟩ := owns_form hown3) | go_in)
        have hown4 : w3.ownsRow (X + 1) 52 3 (.slice ya (k + 1) yc) (k + 1) ((rs ++ [(sx, ByteArray.empty, sz)]).flatMap flatE) := by rw [flat_snoc]; exact hown3
        have hr3 := hns3.cells hr7 (by decide)
        have hbw3 : Below w.heap.size w w3 := hB7.trans (hbl3.mono (by omega))
        have hX4 : (w3.setCell ⟨X, 1, none⟩ (.slice ya (k + 1) yc)).heap[X]? = some (.cells #[.int .i64 kd, .slice ya (k + 1) yc] 25 (0, 0)) := by simpa using heap_setCell_same w3 X 1 _ _ (.slice ya (k + 1) yc) hX3
        have HD4 : Hid (DsN w (w3.setCell ⟨X, 1, none⟩ (.slice ya (k + 1) yc)) X kd (.slice ya (k + 1) yc) (rs ++ [(sx, ByteArray.empty, sz)])) := by
          refine ⟨(Below.heap_setCell _ ⟨X, 1, none⟩ _ _ (by show w.heap.size ≠ X; omega)).trans hr3, hX4, ?_, hXX, hbw3.setCell (p := ⟨X, 1, none⟩) (by show w.heap.size ≤ X; omega) _⟩
          rw [List.length_append, hkk]
          exact owns_set hown4 _ (by show X < X + 1; omega) _
        clear y1 yf hX3 hr3 hX4 hown4 hown3
        go_roundw
        case rel => exact ⟨rs ++ [(sx, ByteArray.empty, sz)], _, by rw [List.length_append, hkk]; show k + 1 ≤ 5; omega, by rw [List.length_append, hkk]; first | rfl | go_num, HD4.out⟩
        case measure => simp [intOf]; omega
    · have hread : NRead wr (.slice va rs.length vc) rs := by
        have q := hown
        rw [← hkk] at q
        exact owns_N q
      have HRR : Hid (NRead wr (.slice va rs.length vc) rs) := hread
      have HF : Hid (Fsh (X + 1) va) := hvf
      have HBOX : Hid _ := hbx
      have hbc : wr.cell? ⟨X, 0, none⟩ = some (.int .i64 kd) ∧ wr.cell? ⟨X, 1, none⟩ = some (.slice va k vc) := by simp [World.cell?, hbx]
      obtain ⟨x0, x1⟩ := hbc
      have hcond : ¬ (k : Int) < (m : Int) ∨ ((k : Int) < (m : Int) ∧ ¬ (k : Int) < 5) := by omega
      have HEN : Hid (Calls Tryz.prog 22 #[.agg #[.int .i64 kd, .slice va rs.length vc]] wr fun e w' => ((nodeOK kd rs ∧ ∃ u, e = .returned (.tuple #[u, .int .i64 0]) ∧ Row8 wr.heap.size w' u (nodL kd rs)) ∨ (e = .returned (.tuple #[.slice none 0 0, .int .i64 5]))) ∧ Below wr.heap.size wr w') := by
        by_cases hok : nodeOK kd rs
        · refine (specEncN_yes kd va vc rs wr HRR.out hok).mono ?_
          rintro e w' ⟨u, rfl, hR, hb⟩
          exact ⟨.inl ⟨hok, u, rfl, hR⟩, hb⟩
        · refine (specEncN_no kd va vc rs wr HRR.out (by omega) hok).mono ?_
          rintro e w' ⟨rfl, hb⟩
          exact ⟨.inr rfl, hb⟩
      rw [hkk] at HEN
      clear hown hread hvf hgo HA
      have HEND : Hid (∀ (W : World), Below wr.heap.size wr W → NRead W (.slice va k vc) rs ∧ Below w.heap.size w W ∧ W.heap[w.heap.size]? = some (.cells #[.int .i64 0, .slice none 0 0] 25 (0, 0)) ∧ W.heap[X]? = some (.cells #[.int .i64 kd, .slice va k vc] 25 (0, 0))) := fun W h => by
        have q := HRR.out.below h
        rw [hkk] at q
        exact ⟨q, hbw.trans (h.mono hbw.size), (h.block _ (by omega)).trans hres, (h.block _ hlt).trans hbx⟩
      have hEE : ∀ (Q : Ending → World → Prop), (∀ e w', (((nodeOK kd rs ∧ ∃ u, e = .returned (.tuple #[u, .int .i64 0]) ∧ Row8 wr.heap.size w' u (nodL kd rs)) ∨ (e = .returned (.tuple #[.slice none 0 0, .int .i64 5]))) ∧ Below wr.heap.size wr w') → Q e w') → Calls Tryz.prog 22 #[.agg #[.int .i64 kd, .slice va k vc]] wr Q := fun Q h => Calls.mono HEN.out h
      clear HEN hbx
      rcases hcond with hc1 | ⟨hc1, hc2⟩
      all_goals
        go_wp2_with fail
        refine hEE _ ?_
        rintro e w2 ⟨⟨hok, u, rfl, hR⟩ | rfl, hb2⟩
        case inr =>
          obtain ⟨-, hB2, hr2, -⟩ := HEND.out w2 hb2
          have hcy : w2.cell? ⟨w.heap.size, 0, none⟩ = some (.int .i64 0) ∧ w2.cell? ⟨w.heap.size, 1, none⟩ = some (.slice none 0 0) := by simp [World.cell?, hr2]
          obtain ⟨q0, q1⟩ := hcy
          have hfy : ∀ i, w2.frozen? ⟨w.heap.size, i, none⟩ = false := fun i => frozen_of_row w2 _ i _ _ hr2
          have z0 := hfy 0
          have z1 := hfy 1
          have HB3 : Hid (Below w.heap.size w ((w2.setCell ⟨w.heap.size, 0, none⟩ (.int .i64 0)).setCell ⟨w.heap.size, 1, none⟩ (.slice none 0 0))) := ((hB2).setCell (p := ⟨w.heap.size, 0, none⟩) (Nat.le_refl _) _).setCell (p := ⟨w.heap.size, 1, none⟩) (Nat.le_refl _) _
          clear hr2 hB2 hfy hb2 hEE x0 x1
          go_wp2
          exact bodyPost_ret (v := .tuple #[.agg #[.int .i64 0, .slice none 0 0], .int .i64 5]) (by simp [results, Tryz.results4, go_sem, q0, q1]) rfl ⟨.inl ⟨5, rfl, by decide⟩, HB3.out⟩
        have HOK : Hid (nodeOK kd rs) := hok
        obtain ⟨ua, uc, hua⟩ := hR.shape
        subst hua
        obtain ⟨hT2, hB2, hr2, hX2⟩ := HEND.out w2 hb2
        have HT2 : Hid (NRead w2 (.slice va k vc) rs) := hT2
        have hbyt : Byt (nodL kd rs) := nodL_byt HOK.out
        have hblen : (nodL kd rs).length = 128 := nodL_length HOK.out
        have hsame := l2Same_any ua uc (nodL kd rs) (some ⟨b, off, none⟩) c zs w2 (Row8.bts hR hbyt) (by rw [h8]; exact HV.out w2 hB2) (by omega) (by omega)
        rw [hblen, h8] at hsame
        have HSM : Hid _ := hsame
        rw [hblen] at hR ⊢
        have hcy : w2.cell? ⟨w.heap.size, 0, none⟩ = some (.int .i64 0) ∧ w2.cell? ⟨w.heap.size, 1, none⟩ = some (.slice none 0 0) := by simp [World.cell?, hr2]
        obtain ⟨q0, q1⟩ := hcy
        have hfy : ∀ i, w2.frozen? ⟨w.heap.size, i, none⟩ = false := fun i => frozen_of_row w2 _ i _ _ hr2
        have z0 := hfy 0
        have z1 := hfy 1
        have hbc2 : w2.cell? ⟨X, 0, none⟩ = some (.int .i64 kd) ∧ w2.cell? ⟨X, 1, none⟩ = some (.slice va k vc) := by simp [World.cell?, hX2]
        obtain ⟨s0, s1⟩ := hbc2
        have HEQ : Hid ((nodL kd rs) = zs ∨ ¬ (nodL kd rs) = zs) := Classical.em _
        have HXW : Hid (w.heap.size < X) := hXX
        clear hok hT2 hR hsame hbyt hblen hfy hr2 hX2 hb2 hEE x0 x1
        generalize hbk : nodL kd rs = bk at *
        go_wp2_with fail
        refine Calls.mono HSM.out ?_
        rintro e w4 ⟨rfl, rfl⟩
        rcases HEQ.out with heq | hne
        · have HQ : Hid (bk = zs) := heq
          have HBK : Hid (nodL kd rs = bk) := hbk
          have hdc : decide (bk = zs) = true := decide_eq_true heq
          have HST : Hid (NRead ((w2.setCell ⟨w.heap.size, 0, none⟩ (.int .i64 kd)).setCell ⟨w.heap.size, 1, none⟩ (.slice va k vc)) (.slice va k vc) rs ∧ Below w.heap.size w ((w2.setCell ⟨w.heap.size, 0, none⟩ (.int .i64 kd)).setCell ⟨w.heap.size, 1, none⟩ (.slice va k vc))) := by
            have hu : Upd w.heap.size (w.heap.size + 1) w2 ((w2.setCell ⟨w.heap.size, 0, none⟩ (.int .i64 kd)).setCell ⟨w.heap.size, 1, none⟩ (.slice va k vc)) := ((Upd.refl _ _ _).setCell (p := ⟨w.heap.size, 0, none⟩) (Nat.le_refl _) (Nat.lt_succ_self _) _).setCell (p := ⟨w.heap.size, 1, none⟩) (Nat.le_refl _) (Nat.lt_succ_self _) _
            exact ⟨HT2.out.upd (fun p hp => by have := HF.out p hp; have := HXW.out; omega) hu, hB2.trans (hu.below (Nat.le_refl _) hB2.size)⟩
          rw [hdc]
          clear heq hdc hB2 hbk
          go_wp2
          exact bodyPost_ret (v := .tuple #[.agg #[.int .i64 kd, .slice va k vc], .int .i64 0]) (by simp [results, Tryz.results4, go_sem, q0, q1]) rfl ⟨.inr ⟨kd, rs, va, vc, by rw [hkk], by rw [hkk]; exact HST.out.1, HOK.out, by rw [HBK.out, HQ.out]⟩, HST.out.2⟩
        · have hdc : decide (bk = zs) = false := decide_eq_false hne
          have HB3 : Hid (Below w.heap.size w ((w2.setCell ⟨w.heap.size, 0, none⟩ (.int .i64 0)).setCell ⟨w.heap.size, 1, none⟩ (.slice none 0 0))) := ((hB2).setCell (p := ⟨w.heap.size, 0, none⟩) (Nat.le_refl _) _).setCell (p := ⟨w.heap.size, 1, none⟩) (Nat.le_refl _) _
          rw [hdc]
          clear hne hdc hB2 hbk
          go_wp2
          exact bodyPost_ret (v := .tuple #[.agg #[.int .i64 0, .slice none 0 0], .int .i64 5]) (by simp [results, Tryz.results4, go_sem, q0, q1]) rfl ⟨.inl ⟨5, rfl, by decide⟩, HB3.out⟩
end Go.Proofs.YtfbjagjgofdheaaGreatDoor
