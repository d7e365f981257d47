import Derived.Test.YtamblkibmlfklabDoorCt6
import Derived.Test.YtamblkibmlfklabDoorOkB
namespace Go.Proofs.YtamblkibmlfklabDoor
open Go.RowKit
set_option linter.unusedVariables false

/-- CountsOf's code -/
def ctC (B : Int) (rs : List R3) : Int := if ¬ (8 ≤ B ∧ B ≤ 512) then 1 else if rs.length ≤ 512 ∧ okB B rs = true then 0 else 5
/-- the counts of n blocks -/
def cntL (rs : List R3) (n : Nat) : List Int := (List.range n).map fun (b : Nat) => cnt rs (b : Int) rs.length
def ctL (B : Int) (rs : List R3) : List Int := if ctC B rs = 0 then cntL rs B.toNat else []

theorem cntL_length (rs : List R3) (n : Nat) : (cntL rs n).length = n := by simp [cntL]
theorem cntL_snoc (rs : List R3) (n : Nat) : cntL rs (n + 1) = cntL rs n ++ [cnt rs n rs.length] := by simp [cntL, List.range_succ]
theorem cntL_small {rs : List R3} (h : okC rs) (n i : Nat) : -9223372036854775808 ≤ (cntL rs n).getD i 0 ∧ (cntL rs n).getD i 0 ≤ 9223372036854775807 := by
  by_cases hi : i < n
  · have := cnt_small h i (Nat.le_refl rs.length)
    simp only [cntL, List.getD_eq_getElem?_getD, List.getElem?_map, List.getElem?_range hi, Option.map_some, Option.getD_some] at this ⊢
    omega
  · simp [cntL, hi]
theorem ctC_ok {B : Int} {rs : List R3} (h : ctC B rs = 0) : (8 ≤ B ∧ B ≤ 512) ∧ rs.length ≤ 512 ∧ okT B rs := by
  unfold ctC at h
  split at h
  · omega
  · rename_i h1
    split at h
    · rename_i h2
      exact ⟨by simpa using h1, h2.1, (okB_iff B rs).1 h2.2⟩
    · omega
theorem ctC_dev {B : Int} {rs : List R3} (h : ¬ (8 ≤ B ∧ B ≤ 512)) : ctC B rs = 1 := if_pos h
theorem ctC_form {B : Int} {rs : List R3} (h : 8 ≤ B ∧ B ≤ 512) (h2 : ¬ (rs.length ≤ 512 ∧ okT B rs)) : ctC B rs = 5 := by
  unfold ctC; rw [if_neg (by simpa using h), if_neg (by rw [okB_iff]; exact h2)]
theorem ctC_yes {B : Int} {rs : List R3} (h : 8 ≤ B ∧ B ≤ 512) (h2 : rs.length ≤ 512) (h3 : okT B rs) : ctC B rs = 0 := by
  unfold ctC; rw [if_neg (by simpa using h), if_pos ⟨h2, (okB_iff B rs).2 h3⟩]
theorem ctL_no {B : Int} {rs : List R3} (h : ctC B rs ≠ 0) : ctL B rs = [] := if_neg h
theorem ctL_length (B : Int) (rs : List R3) : (ctL B rs).length ≤ 512 := by
  unfold ctL
  split
  · rename_i h
    have := (ctC_ok h).1
    rw [cntL_length]; omega
  · simp

/-- the first k counts, then noughts -/
def cntP (rs : List R3) (n k : Nat) : List Int := cntL rs k ++ List.replicate (n - k) 0
theorem cntP_length (rs : List R3) (n k : Nat) (h : k ≤ n) : (cntP rs n k).length = n := by simp [cntP, cntL_length]; omega
theorem cntP_step (rs : List R3) (n k : Nat) (h : k < n) : (cntP rs n k).set k (cnt rs k rs.length) = cntP rs n (k + 1) := by
  unfold cntP
  rw [cntL_snoc, List.set_append_right _ _ (by rw [cntL_length]; omega), cntL_length, Nat.sub_self, show n - k = (n - (k + 1)) + 1 by omega, List.replicate_succ, List.set_cons_zero]
  simp
theorem cntP_end (rs : List R3) (n : Nat) : cntP rs n n = cntL rs n := by simp [cntP]
theorem cntP_zero (rs : List R3) (n : Nat) : cntP rs n 0 = List.replicate n 0 := by simp [cntP, cntL]
theorem zeros_small (n i : Nat) : -9223372036854775808 ≤ (List.replicate n (0 : Int)).getD i 0 ∧ (List.replicate n (0 : Int)).getD i 0 ≤ 9223372036854775807 := by
  by_cases h : i < n <;> simp [h]

set_option maxHeartbeats 1000000 in
theorem implCounts_dev (B : Int) (v : Value) (w : World) (hB : ¬ (8 ≤ B ∧ B ≤ 512)) :
    Calls Tryd.prog 9 #[.int .i64 B, v] w fun e w' => e = .returned (.tuple #[.slice none 0 0, .int .i64 1]) ∧ Below w.heap.size w w' := by
  go_enter Tryd.func9, Tryd.ntmps9
  go_wp2_with fail
  refine (within_any _ _ _ _).mono ?_
  rintro e w1 ⟨rfl, rfl⟩
  rw [inB_false hB]
  go_wp2
  exact bodyPost_ret (v := .tuple #[.slice none 0 0, .int .i64 1]) (by simp [results, Tryd.results9, go_sem]) rfl ⟨rfl, Below.refl _ _⟩

set_option maxRecDepth 100000 in
set_option maxHeartbeats 4000000 in
theorem implCounts_in (n : Nat) (a : Option Addr) (c : Nat) (rs : List R3) (w : World) {adr : Nat → Addr} (hL : Laid w adr) (hB : 8 ≤ n ∧ n ≤ 512) (hv : RRead w (.slice a rs.length c) rs) (hn : rs.length ≤ 1048576) :
    Calls Tryd.prog 9 #[.int .i64 n, .slice a rs.length c] w fun e w' => (∃ u, e = .returned (.tuple #[u, .int .i64 (ctC n rs)]) ∧ Own64 w.heap.size w'.heap.size w' u (ctL n rs)) ∧ Below w.heap.size w w' := by
  have hBi : 8 ≤ (n : Int) ∧ (n : Int) ≤ 512 := by omega
  have HCD : Hid (¬ (rs.length ≤ 512 ∧ okT n rs) → ctC n rs = 5 ∧ ctL n rs = []) := fun h => ⟨ctC_form hBi h, ctL_no (by rw [ctC_form hBi h]; decide)⟩
  have HCY : Hid (rs.length ≤ 512 → okT n rs → ctC n rs = 0 ∧ ctL n rs = cntL rs n) := fun h h' => ⟨ctC_yes hBi h h', by unfold ctL; rw [if_pos (ctC_yes hBi h h'), Int.toNat_natCast]⟩
  go_enter Tryd.func9, Tryd.ntmps9
  go_wp2_with fail
  refine (within_any _ _ _ _).mono ?_
  rintro e w1 ⟨rfl, rfl⟩
  rw [inB_true hBi]
  by_cases hl : rs.length ≤ 512
  · have hl' : ¬ (512 : Int) < (rs.length : Int) := by omega
    go_wp2_with fail
    refine (checkRuns_any hL _ rs hv hn).mono ?_
    rintro e w1 ⟨hb1, h⟩
    rcases h with ⟨hok, rfl⟩ | ⟨hno, u, g, rfl, hpe, hcd⟩
    · have hw1s := hb1.size
      have HV : Hid (RRead w (.slice a rs.length c) rs) := hv
      have HOK : Hid (okC rs) := hok
      obtain ⟨_, _, he, hc⟩ := hv
      simp only [Value.slice.injEq, true_and] at he
      obtain ⟨rfl, rfl⟩ := he
      have HCC : Hid _ := hc
      clear hc hok
      have hmk := run_make_row' (P := Tryd.prog) 23 2 (.int .i64 0) 8 Tryd.underlying23 info64 rfl .i64 .i64 n (by omega) (by omega)
      have HM : Hid (madeCells #[.int .i64 0] n = i64s (List.replicate n 0)) := by
        have h := part64_zero (List.replicate n 0)
        rw [List.length_replicate] at h
        rw [Hid, h]
        simp [part64]
      go_wp2
      go_loopw [25] (fun i wr => ∃ k : Nat, k ≤ rs.length ∧ i = .int .i64 k ∧ Below w.heap.size w wr ∧ ∀ j, j < k → (rs.getD j (0, 0, 0)).1 + (rs.getD j (0, 0, 0)).2.1 ≤ (n : Int)) (fun i _ => rs.length - (intOf i).toNat)
      case atStart => exact ⟨0, Nat.zero_le _, rfl, hb1, fun j hj => by omega⟩
      case round =>
        obtain ⟨k, hk, rfl, hb, hall⟩ := hrel
        by_cases hlt : k < rs.length
        · obtain ⟨b, off, rfl, hcell⟩ := HCC.out (by omega)
          obtain ⟨g1, g2, g3⟩ := hcell k hlt
          have hbw : b < w.heap.size := World.block_lt_of_cell? _ _ g1
          rw [← hb.cell (p := ⟨b, off + k * 3, none⟩) hbw] at g1
          rw [← hb.cell (p := ⟨b, off + k * 3 + 1, none⟩) hbw] at g2
          rw [← hb.cell (p := ⟨b, off + k * 3 + 2, none⟩) hbw] at g3
          have hi : (k : Int) < (rs.length : Int) := by omega
          have hin := (HOK.out k hlt).1
          obtain ⟨p, HP⟩ : ∃ p, Hid (rs.getD k (0, 0, 0) = p) := ⟨_, rfl⟩
          rw [HP.out] at g1 g2 g3 hin
          obtain ⟨x, y, z⟩ := p
          have hx1 : 2 ≤ x ∧ x ≤ 512 := hin.1
          have hy1 : 1 ≤ y ∧ y ≤ 512 := hin.2.1
          simp only at g1 g2 g3
          have HA : Hid (∀ j, j < k → (rs.getD j (0, 0, 0)).1 + (rs.getD j (0, 0, 0)).2.1 ≤ (n : Int)) := hall
          have hB := fun o => hb.trans ((belowA wr o).mono hb.size)
          clear hcell hall hin hmk
          by_cases hf : (n : Int) < x + y
          · have HC5 : Hid (ctC n rs = 5 ∧ ctL n rs = []) := HCD.out fun h => by have := h.2.2 k hlt; rw [HP.out] at this; simp only at this; omega
            go_wp2
            refine bodyPost_ret (v := .tuple #[.slice none 0 0, .int .i64 5]) (by simp [results, Tryd.results9, go_sem]) rfl ⟨⟨.slice none 0 0, by rw [HC5.out.1], by rw [HC5.out.2]; exact Own64.empty _ _ _ _ _⟩, hB _⟩
          · have HF : Hid (∀ j, j < k + 1 → (rs.getD j (0, 0, 0)).1 + (rs.getD j (0, 0, 0)).2.1 ≤ (n : Int)) := fun j hj => by
              by_cases e : j = k
              · subst e; rw [HP.out]; simp only; omega
              · exact HA.out j (by omega)
            go_wp2
            go_roundw
            case rel => exact ⟨k + 1, by omega, by go_num, hB _, HF.out⟩
            case measure => simp [intOf]; omega
        · have hke : k = rs.length := by omega
          have HY : Hid (ctC n rs = 0 ∧ ctL n rs = cntL rs n) := HCY.out hl ⟨HOK.out, fun i hi => hall i (by omega)⟩
          obtain ⟨w2, rfl⟩ : ∃ w2, w2 = wr := ⟨wr, rfl⟩
          clear hall hke
          have hO := Own64.made w2 (List.replicate n 0) (zeros_small _) w2.heap.size rfl
          rw [← HM.out, List.length_replicate] at hO
          have hB0 : Below w.heap.size w (w2.alloc (.cells (madeCells #[.int .i64 0] n) 2)) := hb.trans ((belowA w2 _).mono hb.size)
          have hw2s := hb.size
          go_wp2
          go_loopw [41] (fun i wr => ∃ k : Nat, k ≤ n ∧ i = .int .i64 k ∧ Own64 w2.heap.size (w2.heap.size + 1) wr (.slice (some ⟨w2.heap.size, 0, none⟩) n n) (cntP rs n k) ∧ Below w.heap.size w wr) (fun i _ => n - (intOf i).toNat)
          case atStart => exact ⟨0, Nat.zero_le _, rfl, by rw [cntP_zero]; exact hO, hB0⟩
          case round =>
            obtain ⟨k, hk, rfl, ho, hb⟩ := hrel
            clear hmk hO hB0 HM
            by_cases hlt : k < n
            · have hi : (k : Int) < (n : Int) := by omega
              have HO : Hid _ := ho
              have hcs := cnt_small HOK.out k (Nat.le_refl rs.length)
              clear ho
              go_wp2_with fail
              refine (countIn_any _ rs k (by omega) _ (HV.out.below hb) hn HOK.out).mono ?_
              rintro e w3 ⟨rfl, hb3⟩
              have ho := HO.out.below hb3
              have hb4 := hb.trans (hb3.mono hb.size)
              have hst := ho.stored k hlt (cnt rs k rs.length) (by omega)
              rw [cntP_step rs n k hlt, Nat.zero_add] at hst
              obtain ⟨_, _, he, hs⟩ := ho.shape
              simp only [Value.slice.injEq] at he
              obtain ⟨rfl, hbad, rfl⟩ := he
              clear hbad
              obtain ⟨_, _, he, _, _, h3, hs⟩ := hs (by rw [cntP_length _ _ _ hk]; omega)
              simp only [Option.some.injEq, Addr.mk.injEq, and_true] at he
              obtain ⟨rfl, rfl⟩ := he
              obtain ⟨c1, c2⟩ := hs k (by rw [cntP_length _ _ _ hk]; omega)
              rw [Nat.zero_add] at c1 c2
              generalize (cntP rs n k).getD k 0 = cv at *
              have HS1 : Hid _ := hst.1
              have HS2 : Hid _ := hst.2
              generalize cnt rs k rs.length = cx at *
              clear hs ho hst HO
              go_wp2
              go_roundw
              case rel => exact ⟨k + 1, by omega, by go_num, HS1.out, hb4.trans (HS2.out.below (by omega) (by omega))⟩
              case measure => simp [intOf]; omega
            · have hke : k = n := by omega
              rw [hke, cntP_end] at ho
              have hsz : w2.heap.size + 1 ≤ wr.heap.size := by
                obtain ⟨_, _, he, hs⟩ := ho.shape
                simp only [Value.slice.injEq] at he
                obtain ⟨rfl, _, rfl⟩ := he
                obtain ⟨_, _, he, _, _, h3, _⟩ := hs (by rw [cntL_length]; omega)
                simp only [Option.some.injEq, Addr.mk.injEq, and_true] at he
                obtain ⟨rfl, rfl⟩ := he
                omega
              have ho2 := ho.wider (lo' := w.heap.size) (hi' := wr.heap.size) (by omega) hsz
              rw [← HY.out.2] at ho2
              clear ho hk hke hsz
              go_wp2
              refine bodyPost_ret (v := .tuple #[.slice (some ⟨w2.heap.size, 0, none⟩) n n, .int .i64 0]) (by simp [results, Tryd.results9, go_sem]) rfl ⟨⟨_, by rw [HY.out.1], ho2⟩, hb⟩
    · have HC5 : Hid (ctC n rs = 5 ∧ ctL n rs = []) := HCD.out fun h => hno h.2.1
      obtain ⟨hg, pb, po, hue, h1⟩ := id hpe
      have HPE : Hid (PErr w1 adr u g) := hpe
      subst hue
      have hnil := fun w => run_neq_iface_nil (P := Tryd.prog) (w := w) 54 (by kernel_rfl) 70 (.pointer (some ⟨pb, po, none⟩))
      have hL1 := hL.below hb1
      clear hno hpe
      go_wp2_with fail
      refine (codeOf_any hL1 HPE.out).mono ?_
      rintro e w2 ⟨rfl, hb2⟩
      rw [hcd]
      have hB2 := hb1.trans (hb2.mono hb1.size)
      go_wp2
      refine bodyPost_ret (v := .tuple #[.slice none 0 0, .int .i64 5]) (by simp [results, Tryd.results9, go_sem]) rfl ⟨⟨.slice none 0 0, by rw [HC5.out.1], by rw [HC5.out.2]; exact Own64.empty _ _ _ _ _⟩, hB2⟩
  · have HC5 : Hid (ctC n rs = 5 ∧ ctL n rs = []) := HCD.out fun h => hl h.1
    have hl' : (512 : Int) < (rs.length : Int) := by omega
    go_wp2
    refine bodyPost_ret (v := .tuple #[.slice none 0 0, .int .i64 5]) (by simp [results, Tryd.results9, go_sem]) rfl ⟨⟨.slice none 0 0, by rw [HC5.out.1], by rw [HC5.out.2]; exact Own64.empty _ _ _ _ _⟩, Below.refl _ _⟩
end Go.Proofs.YtamblkibmlfklabDoor
