import Derived.Test.YthcflbidjlediaaDoorCt7
import Derived.Deep.QuietTactic
import Derived.BigQuiet
namespace Go.Proofs.YthcflbidjlediaaDoor
open Go.RowKit
set_option linter.unusedVariables false

set_option maxHeartbeats 1000000 in
theorem specCounts_dev (B : Int) (v : Value) (w : World) (hB : ¬ (8 ≤ B ∧ B ≤ 512)) :
    Calls Tryd.prog 5 #[.int .i64 B, v] w fun e w' => e = .returned (.tuple #[.slice none 0 0, .int .i64 1]) ∧ Below w.heap.size w w' := by
  go_enter Tryd.func5, Tryd.ntmps5
  go_wp2_with fail
  refine (l1BlocksOK_any _ _).mono ?_
  rintro e w1 ⟨rfl, rfl⟩
  rw [inB_false hB]
  go_wp2
  exact bodyPost_ret (v := .tuple #[.slice none 0 0, .int .i64 1]) (by simp [results, Tryd.results5, go_sem]) rfl ⟨rfl, Below.refl _ _⟩

set_option maxRecDepth 100000 in
set_option maxHeartbeats 4000000 in
theorem specCounts_in (n : Nat) (a : Option Addr) (c : Nat) (rs : List R3) (w : World) (hB : 8 ≤ n ∧ n ≤ 512) (hv : RRead w (.slice a rs.length c) rs) (hn : rs.length ≤ 1048576) :
    Calls Tryd.prog 5 #[.int .i64 n, .slice a rs.length c] w fun e w' => (∃ u, e = .returned (.tuple #[u, .int .i64 (ctC n rs)]) ∧ Own64 w.heap.size w'.heap.size w' u (ctL n rs)) ∧ Below w.heap.size w w' := by
  have hBi : 8 ≤ (n : Int) ∧ (n : Int) ≤ 512 := by omega
  have HCD : Hid (¬ (rs.length ≤ 512 ∧ okT n rs) → ctC n rs = 5 ∧ ctL n rs = []) := fun h => ⟨ctC_form hBi h, ctL_no (by rw [ctC_form hBi h]; decide)⟩
  have HCY : Hid (rs.length ≤ 512 → okT n rs → ctC n rs = 0 ∧ ctL n rs = cntL rs n) := fun h h' => ⟨ctC_yes hBi h h', by unfold ctL; rw [if_pos (ctC_yes hBi h h'), Int.toNat_natCast]⟩
  go_enter Tryd.func5, Tryd.ntmps5
  go_wp2_with fail
  refine (l1BlocksOK_any _ _).mono ?_
  rintro e w1 ⟨rfl, rfl⟩
  rw [inB_true hBi]
  by_cases hl : rs.length ≤ 512
  · have hl' : ¬ (512 : Int) < (rs.length : Int) := by omega
    go_wp2_with fail
    refine (l2RunsOK_any n hBi _ rs _ hv hn).mono ?_
    rintro e w1 ⟨hb1, h⟩
    rcases h with ⟨hok, rfl⟩ | ⟨hno, rfl⟩
    · have HY : Hid (ctC n rs = 0 ∧ ctL n rs = cntL rs n) := HCY.out hl hok
      have HOK : Hid (okT n rs) := hok
      obtain ⟨_, _, he, hc⟩ := hv
      simp only [Value.slice.injEq, true_and] at he
      obtain ⟨rfl, rfl⟩ := he
      have HCC : Hid _ := hc
      clear hc hok
      have hw1s := hb1.size
      go_wp2
      go_loopw [6, 7] (fun u i wr => ∃ m : Nat, m ≤ n ∧ i = .int .i64 m ∧ Row64 w.heap.size wr u (cntL rs m) ∧ Below w.heap.size w wr) (fun _ i _ => n - (intOf i).toNat)
      case atStart => exact ⟨0, Nat.zero_le _, rfl, Row64.lit _ _ hw1s _ rfl, hb1.trans ((belowA _ _).mono hw1s)⟩
      case round =>
        obtain ⟨m, hm, rfl, hown, hb⟩ := hrel
        obtain ⟨ua, uc, hua⟩ := hown.shape
        subst hua
        have hsz := hb.size
        have hfl : (cntL rs m).length < 8589934592 := by rw [cntL_length]; omega
        by_cases hlt : m < n
        · have hmi : (m : Int) < (n : Int) := by omega
          have HOW : Hid (∀ q, Row64 w.heap.size (wr.drewN q) (.slice ua (cntL rs m).length uc) (cntL rs m)) := fun _ => hown
          have HSN : Hid (cntL rs (m + 1) = cntL rs m ++ [cnt rs m rs.length]) := cntL_snoc rs m
          clear hown
          obtain ⟨w2, rfl⟩ : ∃ w2, w2 = wr := ⟨wr, rfl⟩
          go_wp2
          go_loopw [8, 9] (fun cv i wq => ∃ k : Nat, k ≤ rs.length ∧ i = .int .i64 k ∧ cv = .int .i64 (cnt rs m k) ∧ ∃ q, wq = w2.drewN q) (fun _ i _ => rs.length - (intOf i).toNat)
          case atStart => exact ⟨0, Nat.zero_le _, rfl, rfl, 0, rfl⟩
          case round =>
            obtain ⟨k, hk, rfl, rfl, q, rfl⟩ := hrel
            by_cases hlt2 : k < rs.length
            · obtain ⟨b, off, rfl, hcell⟩ := HCC.out (by omega)
              obtain ⟨g1, g2, g3⟩ := hcell k hlt2
              have hbw : b < w.heap.size := World.block_lt_of_cell? _ _ g1
              rw [← hb.cell (p := ⟨b, off + k * 3, none⟩) hbw] at g1
              rw [← hb.cell (p := ⟨b, off + k * 3 + 1, none⟩) hbw] at g2
              rw [← hb.cell (p := ⟨b, off + k * 3 + 2, none⟩) hbw] at g3
              have hi : (k : Int) < (rs.length : Int) := by omega
              have hin := (HOK.out.1 k hlt2).1
              have HK : Hid (cnt rs m (k + 1) = if hit (rs.getD k (0, 0, 0)) m then (rs.getD k (0, 0, 0)).2.2 else cnt rs m k) := rfl
              obtain ⟨p, HP⟩ : ∃ p, Hid (rs.getD k (0, 0, 0) = p) := ⟨_, rfl⟩
              rw [HP.out] at g1 g2 g3 hin HK
              obtain ⟨x, y, z⟩ := p
              have hx1 : 2 ≤ x ∧ x ≤ 512 := hin.1
              have hy1 : 1 ≤ y ∧ y ≤ 512 := hin.2.1
              simp only at g1 g2 g3
              clear hcell hin
              by_cases h1 : x ≤ m
              · by_cases h2 : (m : Int) < x + y
                · have HK2 : Hid (cnt rs m (k + 1) = z) := by rw [Hid, HK.out, hit_yes ⟨h1, h2⟩]; rfl
                  clear HK
                  generalize cnt rs m k = cv at *
                  go_wp2
                  go_quiet (fail)
                  go_wp2
                  go_roundw
                  case rel => exact ⟨k + 1, by omega, by go_num, by rw [HK2.out], _, rfl⟩
                  case measure => simp [intOf]; omega
                · have HK2 : Hid (cnt rs m (k + 1) = cnt rs m k) := by rw [Hid, HK.out, hit_no (fun e => h2 e.2)]; rfl
                  clear HK
                  generalize cnt rs m k = cv at *
                  go_wp2
                  go_quiet (fail)
                  go_wp2
                  go_roundw
                  case rel => exact ⟨k + 1, by omega, by go_num, by rw [HK2.out], _, rfl⟩
                  case measure => simp [intOf]; omega
              · have HK2 : Hid (cnt rs m (k + 1) = cnt rs m k) := by rw [Hid, HK.out, hit_no (fun e => h1 e.1)]; rfl
                have hd : decide (x ≤ (m : Int)) = false := by simpa using h1
                clear HK
                generalize cnt rs m k = cv at *
                go_wp2
                go_quiet (fail)
                go_wp2
                go_roundw
                case rel => exact ⟨k + 1, by omega, by go_num, by rw [HK2.out], _, rfl⟩
                case measure => simp [intOf]; omega
            · obtain rfl : k = rs.length := by omega
              have hown := HOW.out q
              generalize cnt rs m rs.length = cv at *
              go_wp2_with (first | (at_builtin; refine wpList_append64 rfl _ _ rfl _ hown rfl rfl hfl hsz ?_; intro v' w3 hown1 hbel1 hsz1 hgr1) | go_in)
              rw [← HSN.out] at hown1
              go_roundw
              case rel => exact ⟨m + 1, by omega, by go_num, hown1, (below_drewN hb _).trans hbel1⟩
              case measure => simp [intOf]; omega
        · obtain rfl : m = n := by omega
          have ho := hown.own (cntL_small HOK.out.1 m)
          have HO : Hid (Own64 w.heap.size wr.heap.size wr (.slice ua (cntL rs m).length uc) (ctL m rs)) := by rw [Hid, HY.out.2]; exact ho
          clear hown ho
          go_wp2
          refine bodyPost_ret (v := .tuple #[.slice ua (cntL rs m).length uc, .int .i64 0]) (by simp [results, Tryd.results5, go_sem]) rfl ⟨⟨_, by rw [HY.out.1], HO.out⟩, hb⟩
    · have HC5 : Hid (ctC n rs = 5 ∧ ctL n rs = []) := HCD.out fun h => hno h.2
      clear hno
      go_wp2
      refine bodyPost_ret (v := .tuple #[.slice none 0 0, .int .i64 5]) (by simp [results, Tryd.results5, go_sem]) rfl ⟨⟨.slice none 0 0, by rw [HC5.out.1], by rw [HC5.out.2]; exact Own64.empty _ _ _ _ _⟩, hb1⟩
  · have HC5 : Hid (ctC n rs = 5 ∧ ctL n rs = []) := HCD.out fun h => hl h.1
    have hl' : (512 : Int) < (rs.length : Int) := by omega
    go_wp2
    refine bodyPost_ret (v := .tuple #[.slice none 0 0, .int .i64 5]) (by simp [results, Tryd.results5, go_sem]) rfl ⟨⟨.slice none 0 0, by rw [HC5.out.1], by rw [HC5.out.2]; exact Own64.empty _ _ _ _ _⟩, Below.refl _ _⟩
end Go.Proofs.YthcflbidjlediaaDoor
