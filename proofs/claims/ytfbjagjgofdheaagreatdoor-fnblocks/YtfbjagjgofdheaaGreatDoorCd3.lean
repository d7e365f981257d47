import Derived.Test.YtfbjagjgofdheaaGreatDoorCd1
import Derived.Test.YtfbjagjgofdheaaGreatDoorCt3
namespace Go.Proofs.YtfbjagjgofdheaaGreatDoor
open Go.RowKit

/-- the next table block's number may stand -/
def nxOK (nx : Int) : Prop := nx = 0 ∨ 2 ≤ nx ∧ nx ≤ 511
/-- the table block may be laid down -/
def tbOK (nx : Int) (rs : List R3) : Prop := nxOK nx ∧ rs.length ≤ 20 ∧ okT 512 rs
/-- the first k runs laid down behind the head -/
def tabP (nx : Int) (rs : List R3) : Nat → List Int
  | 0 => [3, (rs.length : Int)] ++ leN nx 2
  | k + 1 => tabP nx rs k ++ leN (rs.getD k (0, 0, 0)).1 2 ++ leN (rs.getD k (0, 0, 0)).2.1 2 ++ leN (rs.getD k (0, 0, 0)).2.2 2
theorem tabP_length (nx : Int) (rs : List R3) (k : Nat) : (tabP nx rs k).length = 4 + 6 * k := by
  induction k with
  | zero => simp [tabP, leN_length]
  | succ k ih => simp [tabP, leN_length, ih]; omega
theorem tabP_byt (nx : Int) (rs : List R3) (hl : rs.length ≤ 20) (k : Nat) : Byt (tabP nx rs k) := by
  induction k with
  | zero =>
    refine Byt.append (fun i => ?_) (Byt.le _ _)
    match i with
    | 0 => simp
    | 1 => simp; omega
    | i + 2 => simp
  | succ k ih => exact ((ih.append (Byt.le _ _)).append (Byt.le _ _)).append (Byt.le _ _)
/-- the block -/
def tabL (nx : Int) (rs : List R3) : List Int := sealL (tabP nx rs rs.length)

theorem Row8.lower {base base' : Nat} {w : World} {v : Value} {zs : List Int} (h : Row8 base w v zs) (hb : base' ≤ base) : Row8 base' w v zs := by
  refine ⟨h.1, ?_⟩
  rcases h.2 with hn | ⟨g, cap, cur, hv, hg, rest⟩
  · exact .inl hn
  · exact .inr ⟨g, cap, cur, hv, Nat.le_trans hb hg, rest⟩
theorem Row8.two (base : Nat) (w : World) (hb : base ≤ w.heap.size) (a b : Int) : Row8 base (w.alloc (.cells #[.int .u8 a, .int .u8 b] 5)) (.slice (some ⟨w.heap.size, 0, none⟩) 2 2) [a, b] :=
  World.ownsRow_lit (e := 5) (size := 1) w #[.int .u8 a, .int .u8 b] 2 hb (by decide) rfl

set_option maxRecDepth 100000 in
set_option maxHeartbeats 2000000 in
theorem specEncT_yes (nx : Int) (a : Option Addr) (c : Nat) (rs : List R3) (w : World) (hv : RRead w (.slice a rs.length c) rs) (hok : tbOK nx rs) :
    Calls Tryz.prog 32 #[.agg #[.int .i64 nx, .slice a rs.length c]] w fun e w' => ∃ u, e = .returned (.tuple #[u, .int .i64 0]) ∧ Row8 w.heap.size w' u (tabL nx rs) ∧ Below w.heap.size w w' := by
  obtain ⟨hnx, hl, hT⟩ := hok
  have hb0 := belowA w (.cells #[.int .i64 nx, .slice a rs.length c] 34)
  have hl' : ¬ (20 : Int) < (rs.length : Int) := by omega
  have HE : Hid (tabL nx rs = sealL (tabP nx rs rs.length)) := rfl
  have HT : Hid (okT 512 rs) := hT
  clear hT
  go_enter Tryz.func32, Tryz.ntmps32
  have hcase : (nx != 0) = false ∨ ((nx != 0) = true ∧ ¬ nx < 2 ∧ ¬ 512 ≤ nx) := by
    rcases hnx with h | h
    · exact .inl (by simp [h])
    · exact .inr ⟨by simp; omega, by omega, by omega⟩
  clear hnx
  rcases hcase with hn0 | ⟨hn0, hn1, hn2⟩
  all_goals
    go_wp2_with fail
    refine (l2RunsOK_any 512 (by omega) _ rs _ (hv.below hb0) (by omega)).mono ?_
    rintro e w1 ⟨hb1, ⟨-, rfl⟩ | ⟨hno, -⟩⟩
    case inr => exact absurd HT.out hno
    have hB1 := hb0.trans (hb1.mono (by simp))
    have hs1 := hb1.size
    have k0 : w1.cell? ⟨w.heap.size, 0, none⟩ = some (.int .i64 nx) := (hb1.cell (p := ⟨w.heap.size, 0, none⟩) (by simp)).trans (World.cell?_alloc_at _ _ _ _ rfl)
    have k1 : w1.cell? ⟨w.heap.size, 1, none⟩ = some (.slice a rs.length c) := (hb1.cell (p := ⟨w.heap.size, 1, none⟩) (by simp)).trans (World.cell?_alloc_at _ _ _ _ rfl)
    simp only [World.size_alloc] at hs1
    have hr2 := Row8.two w1.heap.size w1 (Nat.le_refl _) 3 rs.length
    have hlt1 : w.heap.size < w1.heap.size := by omega
    go_wp2_with fail
    refine (l2Num_any _ [3, (rs.length : Int)] nx 2 w1.heap.size _ hr2 (by simp) (by simp) (by omega)).mono ?_
    rintro e w2 ⟨u2, rfl, hR2, hb2⟩
    have hx2 : Below w1.heap.size w1 w2 := (belowA w1 _).trans hb2
    have HBX : Hid (∀ X : World, Below w1.heap.size w1 X → X.cell? ⟨w.heap.size, 1, none⟩ = some (.slice a rs.length c)) := fun X hX => (hX.cell (p := ⟨w.heap.size, 1, none⟩) hlt1).trans k1
    have HRX : Hid (∀ X : World, Below w1.heap.size w1 X → RRead X (.slice a rs.length c) rs) := fun X hX => (hv.below hB1).below hX
    have HT0 : Hid (tabP nx rs 0 = [3, (rs.length : Int)] ++ leN nx 2) := rfl
    rw [← HT0.out] at hR2
    clear k0 k1 hr2 hb2 hv
    go_wp2
    go_loopw [4, 5] (fun u i wr => ∃ k : Nat, k ≤ rs.length ∧ i = .int .i64 k ∧ Row8 w1.heap.size wr u (tabP nx rs k) ∧ Below w1.heap.size w1 wr) (fun _ i _ => rs.length - (intOf i).toNat)
    case atStart => exact ⟨0, Nat.zero_le _, rfl, hR2, hx2⟩
    case round =>
      obtain ⟨k, hk, rfl, hown, hX⟩ := hrel
      obtain ⟨ua, uc, hua⟩ := hown.shape
      subst hua
      have b1 := HBX.out _ hX
      have hsX := hX.size
      by_cases hlt : k < rs.length
      · have hki : (k : Int) < (rs.length : Int) := by omega
        have hrd := HRX.out _ hX
        obtain ⟨_, _, he, hc⟩ := hrd
        simp only [Value.slice.injEq, true_and] at he
        obtain ⟨rfl, rfl⟩ := he
        obtain ⟨b, off, rfl, hcell⟩ := hc (by omega)
        obtain ⟨g1, g2, g3⟩ := hcell k hlt
        have HSN : Hid (tabP nx rs (k + 1) = tabP nx rs k ++ leN (rs.getD k (0, 0, 0)).1 2 ++ leN (rs.getD k (0, 0, 0)).2.1 2 ++ leN (rs.getD k (0, 0, 0)).2.2 2) := rfl
        have hln := tabP_length nx rs k
        obtain ⟨p, HP⟩ : ∃ p, Hid (rs.getD k (0, 0, 0) = p) := ⟨_, rfl⟩
        rw [HP.out] at g1 g2 g3 HSN
        obtain ⟨x, y, z⟩ := p
        simp only at g1 g2 g3 HSN
        have HLN : Hid ((tabP nx rs k).length = 4 + 6 * k) := hln
        have HR : Hid (∀ X : World, Below w1.heap.size w1 X → X.cell? ⟨b, off + k * 3 + 1, none⟩ = some (.int .i64 y) ∧ X.cell? ⟨b, off + k * 3 + 2, none⟩ = some (.int .i64 z)) := fun X hX => by
          obtain ⟨_, _, he, hc⟩ := HRX.out X hX
          simp only [Value.slice.injEq, true_and] at he
          obtain ⟨rfl, rfl⟩ := he
          obtain ⟨b', off', he, hcell⟩ := hc (by omega)
          simp only [Option.some.injEq, Addr.mk.injEq, and_true] at he
          obtain ⟨rfl, rfl⟩ := he
          have := hcell k hlt
          rw [HP.out] at this
          exact this.2
        clear hcell hc hln
        generalize htk : tabP nx rs k = tk at *
        go_wp2_with fail
        refine (l2Num_any _ tk x 2 w1.heap.size _ hown (by omega) (by rw [HLN.out]; omega) (by omega)).mono ?_
        rintro e w3 ⟨u3, rfl, hR3, hb3⟩
        have hX3 := hX.trans hb3
        have b3 := HBX.out _ hX3
        obtain ⟨g2', g3'⟩ := HR.out _ hX3
        have hs3 := hX3.size
        have HL3 : Hid ((tk ++ leN x 2).length = 6 + 6 * k) := by rw [Hid, List.length_append, leN_length, HLN.out]; omega
        have HS3 : Hid (tabP nx rs (k + 1) = tk ++ leN x 2 ++ leN y 2 ++ leN z 2) := HSN.out
        clear g1 g2 g3 b1 hown HLN HSN hb3
        generalize tk ++ leN x 2 = t3 at *
        obtain ⟨va, vc, hva⟩ := hR3.shape
        subst hva
        go_wp2_with fail
        refine (l2Num_any _ t3 y 2 w1.heap.size _ hR3 (by omega) (by rw [HL3.out]; omega) (by omega)).mono ?_
        rintro e w4 ⟨u4, rfl, hR4, hb4⟩
        have hX4 := hX3.trans hb4
        have b4 := HBX.out _ hX4
        obtain ⟨-, g3''⟩ := HR.out _ hX4
        have hs4 := hX4.size
        have HL4 : Hid ((t3 ++ leN y 2).length = 8 + 6 * k) := by rw [Hid, List.length_append, leN_length, HL3.out]; omega
        clear g2' g3' b3 hR3 HL3 hb4
        generalize t3 ++ leN y 2 = t4 at *
        obtain ⟨va, vc, hva⟩ := hR4.shape
        subst hva
        go_wp2_with fail
        refine (l2Num_any _ t4 z 2 w1.heap.size _ hR4 (by omega) (by rw [HL4.out]; omega) (by omega)).mono ?_
        rintro e w5 ⟨u5, rfl, hR5, hb5⟩
        rw [← HS3.out] at hR5
        have hX5 := hX4.trans hb5
        go_wp2
        go_roundw
        case rel => exact ⟨k + 1, by omega, by go_num, hR5, hX5⟩
        case measure => simp [intOf]; omega
      · obtain rfl : k = rs.length := by omega
        have hl2 : (tabP nx rs rs.length).length ≤ 124 := by rw [tabP_length]; omega
        have HB : Hid (Byt (tabP nx rs rs.length)) := tabP_byt nx rs hl _
        go_wp2_with fail
        refine (l2Seal_any _ (tabP nx rs rs.length) w1.heap.size _ hown (by omega) hl2 HB.out).mono ?_
        rintro e w3 ⟨u3, rfl, hR3, hb3⟩
        rw [← HE.out] at hR3
        have hB3 := hB1.trans ((hX.trans hb3).mono (by omega))
        go_wp2
        refine bodyPost_ret (v := .tuple #[u3, .int .i64 0]) (by simp [results, Tryz.results32, go_sem]) rfl ⟨_, rfl, hR3.lower (by omega), hB3⟩
end Go.Proofs.YtfbjagjgofdheaaGreatDoor

namespace Go.Proofs.YtfbjagjgofdheaaGreatDoor
open Go.RowKit

/-- k runs laid into a block -/
def layP (nx : Int) (rs : List R3) : Nat → List Int
  | 0 => putL (headL 3 rs.length) 2 nx 2
  | k + 1 => putL (putL (putL (layP nx rs k) (4 + 6 * k) (rs.getD k (0, 0, 0)).1 2) (4 + 6 * k + 2) (rs.getD k (0, 0, 0)).2.1 2) (4 + 6 * k + 4) (rs.getD k (0, 0, 0)).2.2 2

/-- the block is being laid at g; the form's box and the answer's block lie ahead of it -/
structure LayS (w wr : World) (g : Nat) (nx : Int) (sl : Value) (zs : List Int) : Prop where
  arr : Arr wr g zs
  below : Below w.heap.size w wr
  b2 : wr.cell? ⟨w.heap.size, 2, none⟩ = some (.int .i64 nx)
  b3 : wr.cell? ⟨w.heap.size, 3, none⟩ = some sl
  there : wr.there (w.heap.size + 1) 0 128
  far : w.heap.size + 1 < g
theorem Arr.lt {w : World} {b : Nat} {zs : List Int} (h : Arr w b zs) : b < w.heap.size := World.block_lt_of_cell? _ _ (h.at (j := 0) (by omega)).1
theorem LayS.upd {w wr w' : World} {g : Nat} {nx : Int} {sl : Value} {zs zs' : List Int} (h : LayS w wr g nx sl zs) (hu : Upd g (g + 1) wr w') (ha : Arr w' g zs') : LayS w w' g nx sl zs' := by
  have hg := h.arr.lt
  have hf := h.far
  have e1 : w'.heap[w.heap.size]? = wr.heap[w.heap.size]? := hu.block _ (by omega) (.inl (by omega))
  have e2 : w'.heap[w.heap.size + 1]? = wr.heap[w.heap.size + 1]? := hu.block _ (by omega) (.inl (by omega))
  exact ⟨ha, h.below.trans (hu.below (by omega) (by omega)), (World.cell?_of_block (a := ⟨w.heap.size, 2, none⟩) e1).trans h.b2, (World.cell?_of_block (a := ⟨w.heap.size, 3, none⟩) e1).trans h.b3, there_block h.there e2, hf⟩
theorem LayS.alloc {w wr : World} {g : Nat} {nx : Int} {sl : Value} {zs : List Int} (h : LayS w wr g nx sl zs) (o : Obj) : LayS w (wr.alloc o) g nx sl zs := by
  have hb := belowA wr o
  have hg := h.arr.lt
  have hf := h.far
  exact ⟨h.arr.below hb, h.below.trans (hb.mono h.below.size), (hb.cell (p := ⟨w.heap.size, 2, none⟩) (show w.heap.size < wr.heap.size by omega)).trans h.b2, (hb.cell (p := ⟨w.heap.size, 3, none⟩) (show w.heap.size < wr.heap.size by omega)).trans h.b3, there_block h.there (hb.block _ (by omega)), hf⟩
theorem LayS.drew {w wr : World} {g : Nat} {nx : Int} {sl : Value} {zs : List Int} (h : LayS w wr g nx sl zs) : LayS w wr.drew g nx sl zs :=
  ⟨h.arr.heap rfl, h.below.drew, h.b2, h.b3, h.there, h.far⟩

/-- a run's box -/
def BoxR (w : World) (rb : Nat) (x y z : Int) : Prop := w.cell? ⟨rb, 0, none⟩ = some (.int .i64 x) ∧ w.cell? ⟨rb, 1, none⟩ = some (.int .i64 y) ∧ w.cell? ⟨rb, 2, none⟩ = some (.int .i64 z)
theorem putLay {w X : World} {g rb : Nat} {nx : Int} {sl : Value} {zs : List Int} {x y z : Int} (h : LayS w X g nx sl zs) (hr : rb ≠ g) (hc : BoxR X rb x y z) (off cap : Nat) (v : Int) (ho : off + 2 ≤ 128) :
    Calls Tryz.prog 60 #[.slice (some ⟨g, off, none⟩) 2 cap, .int .i64 v] X.drew fun e w' => e = .returned (.tuple #[]) ∧ LayS w w' g nx sl (putL zs off v 2) ∧ BoxR w' rb x y z := by
  refine (putNumber_any g off 2 cap v zs X.drew h.drew.arr ho (by omega)).mono ?_
  rintro e w' ⟨rfl, hA, hu⟩
  have hrb : rb < X.drew.heap.size := World.block_lt_of_cell? X.drew ⟨rb, 0, none⟩ (show X.drew.cell? ⟨rb, 0, none⟩ = _ from hc.1)
  have e1 : w'.heap[rb]? = X.drew.heap[rb]? := hu.block _ hrb (by omega)
  exact ⟨rfl, h.drew.upd hu hA, (World.cell?_of_block (a := ⟨rb, 0, none⟩) e1).trans hc.1, (World.cell?_of_block (a := ⟨rb, 1, none⟩) e1).trans hc.2.1, (World.cell?_of_block (a := ⟨rb, 2, none⟩) e1).trans hc.2.2⟩
theorem sliceRaw_l (g l : Nat) (hl : l < 128) (i : Int) (hi : i = l) (X : World) : (Instr.sliceAt 100 (.pointer (some ⟨g, 0, none⟩)) (some (.int .i64 i)) none none).run Tryz.prog X = .ok (.slice (some ⟨g, l, none⟩) (128 - l) (128 - l)) X := by
  subst hi
  have hal : Tryz.prog.arrayLen 100 = 128 := by kernel_rfl
  have hsz : (sizeOf (Tryz.prog.elem 100)).run Tryz.prog X = .ok 1 X := by kernel_rfl
  rw [run_sliceAt_array_l (P := Tryz.prog) X 100 ⟨g, 0, none⟩ (by kernel_rfl) .i64 l (by omega) (by rw [hal]; omega), hsz]
  simp only [Result.andThen_ok, slicedAt, hal, Int.toNat_natCast, Nat.mul_one]
  rw [if_neg (by omega), Addr.add_mid, Nat.zero_add]

set_option maxRecDepth 100000 in
set_option maxHeartbeats 2000000 in
theorem layT_any (nx : Int) (a : Option Addr) (c : Nat) (rs : List R3) (w : World) (hv : RRead w (.slice a rs.length c) rs) (hl : rs.length ≤ 20) :
    Calls Tryz.prog 101 #[.agg #[.int .i64 3, .int .i64 rs.length, .int .i64 nx, .slice a rs.length c]] w fun e w' => e = .returned (.agg (u8s (layP nx rs rs.length))) ∧ Below w.heap.size w w' := by
  have hh := headL_length 3 rs.length
  have HBY : Hid (Byt (headL 3 rs.length)) := by
    intro i
    match i with
    | 0 => simp [headL]
    | 1 => simp [headL]; omega
    | i + 2 => have := Byt.zeros 126 i; simpa [headL] using this
  go_enter Tryz.func101, Tryz.ntmps101
  go_wp2_with fail
  obtain ⟨W0, HW⟩ : ∃ W0, Hid (W0 = (w.alloc (.cells #[.int .i64 3, .int .i64 rs.length, .int .i64 nx, .slice a rs.length c] 82)).alloc (.cells Tryz.zeroCells100 100)) := ⟨_, rfl⟩
  rw [← HW.out]
  refine (begin_any 3 rs.length (by omega) (by omega) W0).mono ?_
  rintro e w2 ⟨rfl, hb2⟩
  have HL0 : Hid (LayS w (w2.alloc (.cells (u8s (headL 3 rs.length)) 100)) w2.heap.size nx (.slice a rs.length c) (headL 3 rs.length)) := by
    have e1 : W0.cell? ⟨w.heap.size, 2, none⟩ = some (.int .i64 nx) := by
      rw [HW.out, World.cell?_alloc_lt _ _ ⟨w.heap.size, 2, none⟩ (by simp), World.cell?_alloc_at _ _ _ _ rfl]; rfl
    have e2 : W0.cell? ⟨w.heap.size, 3, none⟩ = some (.slice a rs.length c) := by
      rw [HW.out, World.cell?_alloc_lt _ _ ⟨w.heap.size, 3, none⟩ (by simp), World.cell?_alloc_at _ _ _ _ rfl]; rfl
    have e3 : W0.there (w.heap.size + 1) 0 128 := by rw [HW.out, zeroRaw]; exact there_new _ _ (by simp)
    have e4 : W0.heap.size = w.heap.size + 1 + 1 := by rw [HW.out]; simp
    have e5 : Below w.heap.size w W0 := by rw [HW.out]; exact ((Below.refl _ _).alloc (Nat.le_refl _) _).alloc (by simp) _
    have hb3 := hb2.trans ((belowA w2 (.cells (u8s (headL 3 rs.length)) 100)).mono hb2.size)
    have hs2 := hb2.size
    exact ⟨Arr.new w2 _ hh HBY.out _, e5.trans (hb3.mono e5.size), (hb3.cell (p := ⟨w.heap.size, 2, none⟩) (show w.heap.size < W0.heap.size by omega)).trans e1, (hb3.cell (p := ⟨w.heap.size, 3, none⟩) (show w.heap.size < W0.heap.size by omega)).trans e2, there_block e3 (hb3.block _ (by omega)), by omega⟩
  go_wp2_with (first | ((with_reducible refine wpList_alloc128 ?_ ?_); exact ⟨rfl, rfl⟩) | ((with_reducible refine wpList_store_new hh ?_ ?_); exact ⟨rfl, _, _, _, rfl, rfl, rfl, rfl⟩))
  simp only [Act.put, List.setIfInBounds_toArray, List.set_cons_zero, List.set_cons_succ]
  obtain ⟨W3, HW3⟩ : ∃ W3, Hid (W3 = w2.alloc (.cells (u8s (headL 3 rs.length)) 100)) := ⟨_, rfl⟩
  rw [← HW3.out] at HL0 ⊢
  generalize w2.heap.size = g at *
  have hL0 := HL0.out
  have m2 := hL0.b2
  have hc2 : ∀ X : World, X = W3.drew → Calls Tryz.prog 60 #[.slice (some ⟨g, 2, none⟩) 2 126, .int .i64 nx] X fun e w' => e = .returned (.tuple #[]) ∧ LayS w w' g nx (.slice a rs.length c) (layP nx rs 0) ∧ w'.cell? ⟨w.heap.size, 2, none⟩ = some (.int .i64 nx) := fun X e => by
    subst e
    refine (putNumber_any g 2 2 126 nx (headL 3 rs.length) W3.drew hL0.drew.arr (by omega) (by omega)).mono ?_
    rintro e w' ⟨rfl, hA, hu⟩
    have := hL0.drew.upd hu hA
    exact ⟨rfl, this, this.b2⟩
  have HC2 : Hid _ := hc2
  clear hc2 hL0 HL0 hb2 HW3
  go_region_held3 (fun w' => w'.cell? ⟨w.heap.size, 2, none⟩ = some (.int .i64 nx)) (first | go_keep | assumption)
    ((go_at_call 60; refine (HC2.out W3.drew rfl).mono ?_; rintro e w4 ⟨rfl, hL4, hk4⟩))
  have m3 := hL4.b3
  have HL4 : Hid _ := hL4
  clear hL4 hk4 HC2 m2
  go_wp2
  go_loopw [19] (fun i wr => ∃ k : Nat, k ≤ rs.length ∧ i = .int .i64 k ∧ LayS w wr g nx (.slice a rs.length c) (layP nx rs k)) (fun i _ => rs.length - (intOf i).toNat)
  case atStart => exact ⟨0, Nat.zero_le _, rfl, HL4.out⟩
  case round =>
    obtain ⟨k, hk, rfl, hL⟩ := hrel
    clear HL4 m3
    by_cases hlt : k < rs.length
    · have hki : (k : Int) < (rs.length : Int) := by omega
      obtain ⟨_, _, he, hc⟩ := hv.below hL.below
      simp only [Value.slice.injEq, true_and] at he
      obtain ⟨rfl, rfl⟩ := he
      obtain ⟨b, off, rfl, hcell⟩ := hc (by omega)
      obtain ⟨g1, g2, g3⟩ := hcell k hlt
      have HSN : Hid (layP nx rs (k + 1) = putL (putL (putL (layP nx rs k) (4 + 6 * k) (rs.getD k (0, 0, 0)).1 2) (4 + 6 * k + 2) (rs.getD k (0, 0, 0)).2.1 2) (4 + 6 * k + 4) (rs.getD k (0, 0, 0)).2.2 2) := rfl
      obtain ⟨p, HP⟩ : ∃ p, Hid (rs.getD k (0, 0, 0) = p) := ⟨_, rfl⟩
      rw [HP.out] at g1 g2 g3 HSN
      obtain ⟨x, y, z⟩ := p
      simp only at g1 g2 g3 HSN
      have HL : Hid _ := hL
      clear hL hcell hc hv
      obtain ⟨at4, HAT⟩ : ∃ at4 : Nat, Hid (4 + 6 * k = at4) := ⟨_, rfl⟩
      obtain ⟨cp, HCP⟩ : ∃ cp : Nat, Hid (128 - at4 = cp) := ⟨_, rfl⟩
      have hsl : ∀ X : World, (Instr.sliceAt 100 (.pointer (some ⟨g, 0, none⟩)) (some (.int .i64 (4 + 6 * (k : Int)))) none none).run Tryz.prog X = .ok (.slice (some ⟨g, at4, none⟩) cp cp) X := fun X => by
        rw [sliceRaw_l g (4 + 6 * k) (by omega) _ (by omega) X, HAT.out, HCP.out]
      have hcp : (6 : Int) ≤ (cp : Int) := by have := HAT.out; have := HCP.out; omega
      have hcp2 : (2 : Int) ≤ (cp : Int) := by omega
      have hcp4 : (4 : Int) ≤ (cp : Int) := by omega
      have hn0 : ¬ cp = 0 := by omega
      have hn2 : ¬ cp = 2 := by omega
      have hn4 : ¬ cp = 4 := by omega
      have HL0 := fun o => (show Hid (LayS w (wr.alloc o) g nx (.slice (some ⟨b, off, none⟩) rs.length c) (layP nx rs k)) from HL.out.alloc o)
      have HC0 : Hid (BoxR (wr.alloc (.cells #[.int .i64 x, .int .i64 y, .int .i64 z] 78)) wr.heap.size x y z) := ⟨World.cell?_alloc_at _ _ _ _ rfl, World.cell?_alloc_at _ _ _ _ rfl, World.cell?_alloc_at _ _ _ _ rfl⟩
      have HNE : Hid (wr.heap.size ≠ g) := by have := HL.out.arr.lt; unfold Hid; omega
      have HO : Hid (at4 + 6 ≤ 128) := by have := HAT.out; unfold Hid; omega
      go_wp2_with fail
      have hX0 := (HL0 (.cells #[.int .i64 x, .int .i64 y, .int .i64 z] 78)).out
      have hB0 := HC0.out
      generalize wr.alloc (.cells #[.int .i64 x, .int .i64 y, .int .i64 z] 78) = X0 at *
      generalize wr.heap.size = rb at *
      obtain ⟨d0, d1, d2⟩ := hB0
      have HX0 : Hid _ := hX0
      clear hX0 HL0 g1 g2 g3 hsl
      go_region_held3 (fun w' => w'.cell? ⟨rb, 0, none⟩ = some (.int .i64 x) ∧ w'.cell? ⟨rb, 1, none⟩ = some (.int .i64 y) ∧ w'.cell? ⟨rb, 2, none⟩ = some (.int .i64 z)) (first | go_keep | assumption)
        ((go_at_call 60; refine (putLay HX0.out HNE.out HC0.out at4 _ x (by have := HO.out; omega)).mono ?_; rintro e w5 ⟨rfl, hL5, hc5⟩; have hd5 : w5.cell? ⟨rb, 0, none⟩ = some (.int .i64 x) ∧ w5.cell? ⟨rb, 1, none⟩ = some (.int .i64 y) ∧ w5.cell? ⟨rb, 2, none⟩ = some (.int .i64 z) := hc5))
      have HL5 : Hid _ := hL5
      have HC5 : Hid _ := hc5
      obtain ⟨e50, e51, e52⟩ := hd5
      clear hL5 hc5 d0 d1 d2
      go_wp2_with fail
      go_region_held3 (fun w' => w'.cell? ⟨rb, 0, none⟩ = some (.int .i64 x) ∧ w'.cell? ⟨rb, 1, none⟩ = some (.int .i64 y) ∧ w'.cell? ⟨rb, 2, none⟩ = some (.int .i64 z)) (first | go_keep | assumption)
        ((go_at_call 60; refine (putLay HL5.out HNE.out HC5.out (at4 + 2) _ y (by have := HO.out; omega)).mono ?_; rintro e w6 ⟨rfl, hL6, hc6⟩; have hd6 : w6.cell? ⟨rb, 0, none⟩ = some (.int .i64 x) ∧ w6.cell? ⟨rb, 1, none⟩ = some (.int .i64 y) ∧ w6.cell? ⟨rb, 2, none⟩ = some (.int .i64 z) := hc6))
      have HL6 : Hid _ := hL6
      have HC6 : Hid _ := hc6
      obtain ⟨e60, e61, e62⟩ := hd6
      clear hL6 hc6 e50 e51 e52
      go_wp2_with fail
      go_region_held3 (fun w' => w'.cell? ⟨rb, 0, none⟩ = some (.int .i64 x) ∧ w'.cell? ⟨rb, 1, none⟩ = some (.int .i64 y) ∧ w'.cell? ⟨rb, 2, none⟩ = some (.int .i64 z)) (first | go_keep | assumption)
        ((go_at_call 60; refine (putLay HL6.out HNE.out HC6.out (at4 + 4) _ z (by have := HO.out; omega)).mono ?_; rintro e w7 ⟨rfl, hL7, hc7⟩; have hd7 : w7.cell? ⟨rb, 0, none⟩ = some (.int .i64 x) ∧ w7.cell? ⟨rb, 1, none⟩ = some (.int .i64 y) ∧ w7.cell? ⟨rb, 2, none⟩ = some (.int .i64 z) := hc7))
      have HL7 : Hid _ := hL7
      rw [HAT.out] at HSN
      rw [← HSN.out] at HL7
      clear hL7 hc7 hd7 e60 e61 e62
      go_wp2
      go_roundw
      case rel => exact ⟨k + 1, by omega, by go_num, HL7.out⟩
      case measure => simp [intOf]; omega
    · obtain rfl : k = rs.length := by omega
      have hR3 := hL.arr.rng
      have hl3 := hL.arr.1
      have hT3 := hL.there
      have HBL : Hid (Below w.heap.size w (wr.setCells (w.heap.size + 1) 0 ((layP nx rs rs.length).map (Value.int .u8)))) := Below.setCells hL.below (by omega) _ _
      have HRS : Hid _ := Rng8.stored hT3 hl3
      clear hL
      go_wp2_with (first | ((with_reducible refine wpList_load128 hR3 ?_ ?_); exact ⟨rfl, _, rfl, rfl⟩) | ((with_reducible refine wpList_store128 hT3 hl3 ?_ ?_); exact ⟨rfl, _, _, rfl, rfl, rfl⟩))
      exact bodyPost_ret (result_rng Tryz.results101 rfl HRS.out) rfl ⟨rfl, HBL.out⟩
end Go.Proofs.YtfbjagjgofdheaaGreatDoor

namespace Go.Proofs.YtfbjagjgofdheaaGreatDoor
open Go.RowKit

theorem putL_app (pre : List Int) (v : Int) (m n : Nat) (h : n ≤ m) : putL (pre ++ List.replicate m 0) pre.length v n = pre ++ leN v n ++ List.replicate (m - n) 0 := by
  induction n with
  | zero => simp [putL, leN]
  | succ n ih =>
    rw [putL, ih (by omega), leN_snoc, List.set_append_right _ _ (by simp [leN_length]), show m - n = (m - (n + 1)) + 1 by omega, List.replicate_succ]
    have e : pre.length + n - (pre ++ leN v n).length = 0 := by simp [leN_length]
    rw [e, List.set_cons_zero]
    simp
theorem putL_at (pre : List Int) (off : Nat) (ho : off = pre.length) (v : Int) (m n : Nat) (h : n ≤ m) : putL (pre ++ List.replicate m 0) off v n = pre ++ leN v n ++ List.replicate (m - n) 0 := by
  subst ho; exact putL_app pre v m n h

theorem layP_eq (nx : Int) (rs : List R3) (k : Nat) (h : k ≤ 20) : layP nx rs k = tabP nx rs k ++ List.replicate (124 - 6 * k) 0 := by
  induction k with
  | zero =>
    have e : headL 3 rs.length = [3, (rs.length : Int)] ++ List.replicate 126 0 := rfl
    rw [layP, e, putL_at _ 2 rfl nx 126 2 (by omega)]
    rfl
  | succ k ih =>
    have hl := tabP_length nx rs k
    rw [layP, ih (by omega), putL_at _ (4 + 6 * k) hl.symm _ _ 2 (by omega), putL_at _ (4 + 6 * k + 2) (by simp [hl, leN_length]) _ _ 2 (by omega), putL_at _ (4 + 6 * k + 4) (by simp [hl, leN_length]) _ _ 2 (by omega), tabP]
    rw [show 124 - 6 * k - 2 - 2 - 2 = 124 - 6 * (k + 1) by omega]

theorem layP_fill (nx : Int) (rs : List R3) (k : Nat) (h : k ≤ 20) : layP nx rs k = fillL (tabP nx rs k) ++ List.replicate 4 0 := by
  rw [layP_eq nx rs k h, fillL, tabP_length, List.append_assoc, List.replicate_append_replicate]
  rw [show 124 - (4 + 6 * k) + 4 = 124 - 6 * k by omega]

theorem layP_take (nx : Int) (rs : List R3) (k : Nat) (h : k ≤ 20) : (layP nx rs k).take 124 = fillL (tabP nx rs k) := by
  have hl : (fillL (tabP nx rs k)).length = 124 := fillL_length _ (by rw [tabP_length]; omega)
  rw [layP_fill nx rs k h, List.take_append_of_le_length (by omega), List.take_of_length_le (by omega)]

/-- what the program lays and seals is the block -/
theorem layP_seal (nx : Int) (rs : List R3) (h : rs.length ≤ 20) : putL (layP nx rs rs.length) 124 (crcOf ((layP nx rs rs.length).take 124)) 4 = tabL nx rs := by
  have hl : (fillL (tabP nx rs rs.length)).length = 124 := fillL_length _ (by rw [tabP_length]; omega)
  rw [layP_take nx rs _ h, layP_fill nx rs _ h, putL_at _ 124 hl.symm _ 4 4 (by omega)]
  simp [tabL, sealL]
theorem layP_length (nx : Int) (rs : List R3) (k : Nat) (h : k ≤ 20) : (layP nx rs k).length = 128 := by
  rw [layP_eq nx rs k h]; simp [tabP_length]; omega
theorem layP_byt (nx : Int) (rs : List R3) (hl : rs.length ≤ 20) (k : Nat) (h : k ≤ 20) : Byt (layP nx rs k) := by
  rw [layP_eq nx rs k h]; exact (tabP_byt nx rs hl k).append (Byt.zeros _)
end Go.Proofs.YtfbjagjgofdheaaGreatDoor

namespace Go.Proofs.YtfbjagjgofdheaaGreatDoor
open Go.RowKit

set_option maxRecDepth 100000 in
set_option maxHeartbeats 2000000 in
theorem specEncT_no (nx : Int) (a : Option Addr) (c : Nat) (rs : List R3) (w : World) (hv : RRead w (.slice a rs.length c) rs) (hn : rs.length ≤ 1048576) (hok : ¬ tbOK nx rs) :
    Calls Tryz.prog 32 #[.agg #[.int .i64 nx, .slice a rs.length c]] w fun e w' => e = .returned (.tuple #[.slice none 0 0, .int .i64 5]) ∧ Below w.heap.size w w' := by
  have hb0 := belowA w (.cells #[.int .i64 nx, .slice a rs.length c] 34)
  have hcase : ((nx != 0) = true ∧ nx < 2) ∨ ((nx != 0) = true ∧ ¬ nx < 2 ∧ 512 ≤ nx) ∨ (nxOK nx ∧ (20 : Int) < (rs.length : Int)) ∨ (nxOK nx ∧ ¬ (20 : Int) < (rs.length : Int) ∧ ¬ okT 512 rs) := by
    by_cases h : nxOK nx
    · by_cases hl : (20 : Int) < (rs.length : Int)
      · exact .inr (.inr (.inl ⟨h, hl⟩))
      · exact .inr (.inr (.inr ⟨h, hl, fun hT => hok ⟨h, by omega, hT⟩⟩))
    · have h' : nx ≠ 0 ∧ ¬ (2 ≤ nx ∧ nx ≤ 511) := ⟨fun e => h (.inl e), fun e => h (.inr e)⟩
      by_cases h2 : nx < 2
      · exact .inl ⟨by simp; exact h'.1, h2⟩
      · exact .inr (.inl ⟨by simp; exact h'.1, h2, by omega⟩)
  clear hok
  go_enter Tryz.func32, Tryz.ntmps32
  rcases hcase with ⟨hn0, h1⟩ | ⟨hn0, h1, h2⟩ | ⟨hnx, hl⟩ | ⟨hnx, hl, hT⟩
  · go_wp2
    exact bodyPost_ret (v := .tuple #[.slice none 0 0, .int .i64 5]) (by simp [results, Tryz.results32, go_sem]) rfl ⟨rfl, hb0⟩
  · go_wp2
    exact bodyPost_ret (v := .tuple #[.slice none 0 0, .int .i64 5]) (by simp [results, Tryz.results32, go_sem]) rfl ⟨rfl, hb0⟩
  · have hcase : (nx != 0) = false ∨ ((nx != 0) = true ∧ ¬ nx < 2 ∧ ¬ 512 ≤ nx) := by
      rcases hnx with h | h
      · exact .inl (by simp [h])
      · exact .inr ⟨by simp; omega, by omega, by omega⟩
    clear hnx
    rcases hcase with hn0 | ⟨hn0, hn1, hn2⟩
    all_goals
      go_wp2
      exact bodyPost_ret (v := .tuple #[.slice none 0 0, .int .i64 5]) (by simp [results, Tryz.results32, go_sem]) rfl ⟨rfl, hb0⟩
  · have hcase : (nx != 0) = false ∨ ((nx != 0) = true ∧ ¬ nx < 2 ∧ ¬ 512 ≤ nx) := by
      rcases hnx with h | h
      · exact .inl (by simp [h])
      · exact .inr ⟨by simp; omega, by omega, by omega⟩
    clear hnx
    have HT : Hid (¬ okT 512 rs) := hT
    clear hT
    rcases hcase with hn0 | ⟨hn0, hn1, hn2⟩
    all_goals
      go_wp2_with fail
      refine (l2RunsOK_any 512 (by omega) _ rs _ (hv.below hb0) (by omega)).mono ?_
      rintro e w1 ⟨hb1, ⟨hyes, -⟩ | ⟨-, rfl⟩⟩
      case inl => exact absurd hyes HT.out
      have hB1 := hb0.trans (hb1.mono (by simp))
      go_wp2
      exact bodyPost_ret (v := .tuple #[.slice none 0 0, .int .i64 5]) (by simp [results, Tryz.results32, go_sem]) rfl ⟨rfl, hB1⟩
end Go.Proofs.YtfbjagjgofdheaaGreatDoor
