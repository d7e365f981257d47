import Derived.Test.YtbadedhliplkeaaFl5a
namespace Go.Proofs.Ytbadedhliplkeaa
open Go.RowKit

/-- bit k of the bytes ks -/
def kbit (ks : List Int) (k : Nat) : Bool := decide (k / 8 < ks.length) && (bits .and .u8 (ks.getD (k / 8) 0 / 2 ^ (k % 8)) 1 == 1)
/-- write k survives -/
def kept (al : Bool) (ks : List Int) (k : Nat) : Bool := al || kbit ks k
/-- the survivors among the first k -/
def keptTo (al : Bool) (ks : List Int) (ps : List (Int × List Int)) (k : Nat) : List (Int × List Int) := ((List.range k).filter (kept al ks)).map fun i => ps.getD i (0, [])

theorem keptTo_succ (al : Bool) (ks : List Int) (ps : List (Int × List Int)) (k : Nat) : keptTo al ks ps (k + 1) = if kept al ks k = true then keptTo al ks ps k ++ [ps.getD k (0, [])] else keptTo al ks ps k := by
  unfold keptTo
  rw [List.range_succ, List.filter_append]
  by_cases h : kept al ks k = true
  · simp [h]
  · simp [h]

theorem seenIn_snoc (zs : List Int) (q : Int) (ps : List (Int × List Int)) (p : Int × List Int) : seenIn zs q (ps ++ [p]) = if p.1 = q then p.2 else seenIn zs q ps := by
  simp [seenIn]

theorem keptTo_mem {al : Bool} {ks : List Int} {ps : List (Int × List Int)} {k : Nat} (hk : k ≤ ps.length) {i : Nat} (hi : i < (keptTo al ks ps k).length) : ∃ j, j < ps.length ∧ (keptTo al ks ps k).getD i (0, []) = ps.getD j (0, []) := by
  have hm : (keptTo al ks ps k)[i] ∈ keptTo al ks ps k := List.getElem_mem hi
  unfold keptTo at hm
  rw [List.mem_map] at hm
  obtain ⟨j, hj, he⟩ := hm
  rw [List.mem_filter, List.mem_range] at hj
  refine ⟨j, by omega, ?_⟩
  rw [List.getD_eq_getElem?_getD, List.getElem?_eq_getElem hi]
  exact he.symm

theorem keptTo_length (al : Bool) (ks : List Int) (ps : List (Int × List Int)) (k : Nat) : (keptTo al ks ps k).length ≤ k := by
  unfold keptTo
  have := List.length_filter_le (kept al ks) (List.range k)
  simpa using this

theorem kept_ok {al : Bool} {ks : List Int} {B : Int} {zs : List Int} {ps : List (Int × List Int)} (hok : dOK B zs ps = true) : dOK B zs (keptTo al ks ps ps.length) = true := by
  obtain ⟨hB1, hB2, hzl, hpl, hel⟩ := dOK_out hok
  refine dOK_true ⟨hB1, hB2, hzl, by have := keptTo_length al ks ps ps.length; omega, fun i hi => ?_⟩
  obtain ⟨j, hj, he⟩ := keptTo_mem (Nat.le_refl _) hi
  rw [he]; exact hel j hj

theorem keptTo_all (ks : List Int) (ps : List (Int × List Int)) (k : Nat) (hk : k ≤ ps.length) : keptTo true ks ps k = ps.take k := by
  induction k with
  | zero => simp [keptTo]
  | succ k ih =>
    rw [keptTo_succ, if_pos (by simp [kept]), ih (by omega), List.take_succ_eq_append_getElem (by omega)]
    simp [show k < ps.length by omega]

theorem bit_yes {ks : List Int} {k : Nat} (h8 : k / 8 < ks.length) (hb : (bits BinOp.and IntKind.u8 (ks[k / 8] / 2 ^ (k % 8)) 1 == 1) = true) : kept false ks k = true := by
  simp only [kept, kbit, Bool.false_or, List.getD_eq_getElem?_getD, List.getElem?_eq_getElem h8, Option.getD_some, decide_eq_true h8, Bool.true_and]
  exact hb
theorem bit_no {ks : List Int} {k : Nat} (h8 : k / 8 < ks.length) (hb : (bits BinOp.and IntKind.u8 (ks[k / 8] / 2 ^ (k % 8)) 1 == 1) = false) : kept false ks k = false := by
  simp only [kept, kbit, Bool.false_or, List.getD_eq_getElem?_getD, List.getElem?_eq_getElem h8, Option.getD_some, decide_eq_true h8, Bool.true_and]
  exact hb
theorem bit_out {ks : List Int} {k : Nat} (h8 : ¬ k / 8 < ks.length) : kept false ks k = false := by
  simp [kept, kbit, h8]

theorem row_bytes {w : World} {db doff dc b : Nat} {zs : List Int} (hk : Bts w (.slice (some ⟨db, doff, none⟩) zs.length dc) zs) (hz : (b + 1) * 128 ≤ zs.length) (c : Nat) : Bts w (.slice (some ⟨db, doff + b * 128, none⟩) 128 c) (blk zs b) := by
  obtain ⟨_, _, he, hc⟩ := hk.shape
  simp only [Value.slice.injEq, true_and] at he
  obtain ⟨rfl, rfl⟩ := he
  obtain ⟨_, _, he, hcell⟩ := hc (by omega)
  simp only [Option.some.injEq, Addr.mk.injEq, and_true] at he
  obtain ⟨rfl, rfl⟩ := he
  have hbl := blk_length zs b hz
  exact ⟨blk_small zs b hk.small, _, c, by rw [hbl], fun _ => ⟨db, doff + b * 128, rfl, fun i hi => by
    rw [hbl] at hi
    rw [Nat.add_assoc, hcell _ (by omega), blk_get _ _ _ hi]⟩⟩

set_option maxHeartbeats 8000000 in
set_option maxRecDepth 100000 in
theorem settled_any (al : Bool) (ks : List Int) (B : Int) (da ca ka : Option Addr) (dc cc kc : Nat) (zs : List Int) (ps : List (Int × List Int)) (w : World) (h : DRead w (.agg #[.int .i64 B, .slice da zs.length dc, .slice ca ps.length cc]) B zs ps) (hcap : zs.length ≤ dc) (hok : dOK B zs ps = true) (hkv : Bts w (.slice ka ks.length kc) ks) (hkl : ks.length ≤ 1048576) :
    Calls Try.prog 56 #[.agg #[.int .i64 B, .slice da zs.length dc, .slice ca ps.length cc], .slice ka ks.length kc, .bool al] w fun e w' => ∃ xa xc, e = .returned (.slice xa (settle zs (keptTo al ks ps ps.length)).length xc) ∧ Own8 w.heap.size w'.heap.size w' (.slice xa (settle zs (keptTo al ks ps ps.length)).length xc) (settle zs (keptTo al ks ps ps.length)) ∧ Below w.heap.size w w' := by
  obtain ⟨hB1, hB2, hzl, hpl, hel⟩ := dOK_out hok
  have hok2 := kept_ok (al := al) (ks := ks) hok
  obtain ⟨_, _, _, _, he, k1, k2⟩ := h
  simp only [Value.agg.injEq, Array.mk.injEq, List.cons.injEq, Value.slice.injEq, true_and, and_true] at he
  obtain ⟨⟨rfl, rfl⟩, rfl, rfl⟩ := he
  have hzl' : zs.length ≤ 1048576 := by omega
  have hX := Box3.made w (.int .i64 B) (.slice da zs.length dc) (.slice ca ps.length cc) 25 _ rfl
  have hb0 := belowA w (.cells #[.int .i64 B, .slice da zs.length dc, .slice ca ps.length cc] 25)
  obtain ⟨n, rfl⟩ := Int.eq_ofNat_of_zero_le (show 0 ≤ B by omega)
  obtain ⟨qs, hqs⟩ : ∃ qs, qs = keptTo al ks ps ps.length := ⟨_, rfl⟩
  rw [← hqs] at hok2 ⊢
  have HC : Hid (cat zs qs n = settle zs qs) := settle_cat n zs qs hok2
  have HQ : Hid (qs = keptTo al ks ps ps.length) := hqs
  have HZL : Hid (zs.length = n * 128) := (by omega : zs.length = n * 128)
  have hsl : ∀ q : Nat, q < n → (seenIn zs q qs).length = 128 := fun q hq => seenIn_length n q zs qs hok2 (by omega)
  have hps : ∀ i, i < ps.length → ∀ j, 0 ≤ (ps.getD i (0, [])).2.getD j 0 ∧ (ps.getD i (0, [])).2.getD j 0 < 256 := fun i hi => by
    obtain ⟨_, _, _, hx⟩ := k2
    obtain ⟨_, _, _, hx⟩ := hx (by omega)
    obtain ⟨_, _, _, _, hx⟩ := hx i hi
    exact hx.small
  have hss : ∀ q i : Nat, q < n → 0 ≤ (seenIn zs q qs).getD i 0 ∧ (seenIn zs q qs).getD i 0 < 256 := fun q i _ => seenIn_ind (fun l => ∀ i, 0 ≤ l.getD i 0 ∧ l.getD i 0 < 256) zs q qs (blk_small zs _ k1.small) (fun i hi => by
    rw [hqs] at hi ⊢
    obtain ⟨j, hj, he⟩ := keptTo_mem (Nat.le_refl _) hi
    rw [he]; exact hps j hj) i
  have hcs := fun b (hb : b ≤ n) => cat_small zs qs b (fun q i hq => hss q i (by omega)) (fun q hq => hsl q (by omega))
  have hcl := fun b (hb : b ≤ n) => cat_length zs qs b (fun q hq => hsl q (by omega))
  have HCL : Hid (∀ b, b ≤ n → (cat zs qs b).length = b * 128) := hcl
  have HCS : Hid (∀ b, b ≤ n → ∀ i, 0 ≤ (cat zs qs b).getD i 0 ∧ (cat zs qs b).getD i 0 < 256) := hcs
  have HSL : Hid (∀ q : Nat, q < n → (seenIn zs q qs).length = 128) := hsl
  clear hzl hqs hcl hcs hss hps hsl
  go_enter Try.func56, Try.ntmps56
  go_wp2
  obtain ⟨W1, hW1⟩ : ∃ W1, W1 = w.alloc (.cells #[.int .i64 n, .slice da zs.length dc, .slice ca ps.length cc] 25) := ⟨_, rfl⟩
  have hs1 : W1.heap.size = w.heap.size + 1 := by rw [hW1]; simp
  rw [← hW1] at hX hb0 ⊢
  have HS1 : Hid (W1.heap.size = w.heap.size + 1) := hs1
  have hrow0 : Row8 (w.heap.size + 1) (W1.alloc (.cells #[] 5)) (.slice (some ⟨w.heap.size + 1, 0, none⟩) 0 0) [] := Row8.lit _ _ (by omega) _ hs1.symm
  clear hW1 hs1
  go_loopw [7, 8, 9, 10, 11] (fun u i _ _ _ wr => ∃ b : Nat, b ≤ n ∧ i = .int .i64 b ∧ Row8 (w.heap.size + 1) wr u (cat zs qs b) ∧ Below W1.heap.size W1 wr) (fun _ i _ _ _ _ => n - (intOf i).toNat)
  case atStart => exact ⟨0, Nat.zero_le _, rfl, hrow0, belowA _ _⟩
  case round =>
    obtain ⟨b, hb, rfl, hown, hbel⟩ := hrel
    obtain ⟨ua, uc, hua⟩ := hown.shape
    subst hua
    clear hrow0
    have hXr := hX.below hbel
    obtain ⟨x0, x1, x2⟩ := hXr.cells
    have hb2 : Below w.heap.size w wr := hb0.trans (hbel.mono hb0.size)
    by_cases hlt : b < n
    · have hd := k1.shape
      obtain ⟨_, _, he, hdc⟩ := hd
      simp only [Value.slice.injEq, true_and] at he
      obtain ⟨rfl, rfl⟩ := he
      obtain ⟨db, doff, rfl, -⟩ := hdc (by have := HZL.out; omega)
      have hcd : ((b : Int) + 1) * 128 ≤ dc := by have := HZL.out; omega
      have hnow := fun c => row_bytes (b := b) k1 (by have := HZL.out; omega) c
      have h128 : (b + 1) * 128 - b * 128 = 128 := by omega
      clear hdc
      go_wp2
      go_loop [9, 10] (fun nw i => ∃ k : Nat, k ≤ ps.length ∧ i = .int .i64 k ∧ ∃ a c, nw = .slice a 128 c ∧ Bts w (.slice a 128 c) (seenIn zs b (keptTo al ks ps k))) (fun _ i => ps.length - (intOf i).toNat)
      case atStart => exact ⟨0, Nat.zero_le _, rfl, _, _, by rw [h128], hnow _⟩
      case round =>
        obtain ⟨k, hk, rfl, a, c, rfl, hbk⟩ := hrel
        clear h128 hnow
        by_cases hlt2 : k < ps.length
        · obtain ⟨_, _, he, hpc⟩ := id k2
          simp only [Value.slice.injEq, true_and] at he
          obtain ⟨rfl, rfl⟩ := he
          obtain ⟨pb, po, rfl, hcell⟩ := hpc (by omega)
          obtain ⟨ea, ec, g1, g2, g3⟩ := hcell k hlt2
          have hpk := (of_decide_eq_true (hel k hlt2)).2.2
          have hbw := World.block_lt_of_cell? _ _ g1
          rw [← hb2.cell (p := ⟨pb, po + k * 2, none⟩) hbw] at g1
          rw [← hb2.cell (p := ⟨pb, po + k * 2 + 1, none⟩) hbw] at g2
          have g4 := g3
          have HK : Hid (seenIn zs b (keptTo al ks ps (k + 1)) = if kept al ks k = true ∧ (ps.getD k (0, [])).1 = b then (ps.getD k (0, [])).2 else seenIn zs b (keptTo al ks ps k)) := by
            rw [keptTo_succ]
            by_cases hkk : kept al ks k = true
            · rw [if_pos hkk, seenIn_snoc]; simp [hkk, Hid]
            · rw [if_neg hkk]; simp [hkk, Hid]
          clear hcell hpc g3
          generalize ps.getD k (0, []) = e at g1 g2 g4 hpk HK
          obtain ⟨r, ds⟩ := e
          simp only at g1 g2 g4 hpk HK
          rw [hpk] at g2 g4
          by_cases hr : r = b
          · subst hr
            have hr' : ((b : Int) != (b : Int)) = false := by simp
            have hyes : kept al ks k = true → Bts w (.slice ea 128 ec) (seenIn zs b (keptTo al ks ps (k + 1))) := fun hkk => by rw [HK.out, if_pos ⟨hkk, rfl⟩]; exact g4
            have hno : kept al ks k = false → Bts w (.slice a 128 c) (seenIn zs b (keptTo al ks ps (k + 1))) := fun hkk => by rw [HK.out, if_neg (by simp [hkk])]; exact hbk
            clear hbk g4 HK hpk
            cases al with
            | true =>
              have hb3 := hyes (by simp [kept])
              clear hyes hno
              go_wp2
              go_round
              case rel => exact ⟨k + 1, by omega, by go_num, _, _, rfl, hb3⟩
              case measure => simp [intOf]; omega
            | false =>
              by_cases h8 : k / 8 < ks.length
              · have h8' : (k : Int) / 8 < (ks.length : Int) := by omega
                have hksh := hkv.shape
                obtain ⟨_, _, he, hkd⟩ := hksh
                simp only [Value.slice.injEq, true_and] at he
                obtain ⟨rfl, rfl⟩ := he
                obtain ⟨kb, ko, rfl, hke⟩ := hkd (by omega)
                have hkb := hke (k / 8) h8
                have kk : wr.cell? ⟨kb, ko + k / 8, none⟩ = some (.int .u8 (ks.getD (k / 8) 0)) := (hb2.cell (p := ⟨kb, ko + k / 8, none⟩) (World.block_lt_of_cell? _ _ hkb)).trans hkb
                have hks := hkv.small (k / 8)
                have hyes2 := fun hh => hyes (bit_yes h8 hh)
                have hno2 := fun hh => hno (bit_no h8 hh)
                have HY : Hid _ := hyes2
                have HN : Hid _ := hno2
                clear hkd hke hyes hno hkb hyes2 hno2
                go_wp2
                · go_round
                  case rel => exact ⟨k + 1, by omega, by go_num, _, _, rfl, HY.out (by assumption)⟩
                  case measure => simp [intOf]; omega
                · go_round
                  case rel => exact ⟨k + 1, by omega, by go_num, _, _, rfl, HN.out (by assumption)⟩
                  case measure => simp [intOf]; omega
              · have h8' : ¬ (k : Int) / 8 < (ks.length : Int) := by omega
                have hb3 := hno (bit_out h8)
                clear hyes hno
                go_wp2
                go_round
                case rel => exact ⟨k + 1, by omega, by go_num, _, _, rfl, hb3⟩
                case measure => simp [intOf]; omega
          · have hr' : (r != (b : Int)) = true := by simpa using hr
            have hb3 : Bts w (.slice a 128 c) (seenIn zs b (keptTo al ks ps (k + 1))) := by rw [HK.out, if_neg (fun hh => hr hh.2)]; exact hbk
            clear hr hbk HK g4
            go_wp2
            go_round
            case rel => exact ⟨k + 1, by omega, by go_num, _, _, rfl, hb3⟩
            case measure => simp [intOf]; omega
        · have hke : k = ps.length := by omega
          have hb3 : Bts w (.slice a 128 c) (seenIn zs b qs) := by rw [HQ.out, ← hke]; exact hbk
          have HBL : Hid ((seenIn zs b qs).length = 128) := HSL.out b hlt
          have HCB : Hid ((cat zs qs b).length = b * 128) := HCL.out b hb
          obtain ⟨_, _, he, hnd⟩ := hb3.shape
          simp only [Value.slice.injEq] at he
          obtain ⟨rfl, -, rfl⟩ := he
          obtain ⟨nb, no, rfl, hnc⟩ := hnd (by rw [HBL.out]; omega)
          have hrow1 : Row8 (w.heap.size + 1) wr (.slice ua (cat zs qs b).length uc) (cat zs qs b ++ (seenIn zs b qs).take 0) := by simpa using hown
          clear hke hbk hown hnd
          go_wp2
          clear x0 x1 x2 hXr
          go_loopw [7, 11] (fun u i w2 => ∃ j : Nat, j ≤ 128 ∧ i = .int .i64 j ∧ Row8 (w.heap.size + 1) w2 u (cat zs qs b ++ (seenIn zs b qs).take j) ∧ Below W1.heap.size W1 w2) (fun _ i _ => 128 - (intOf i).toNat)
          case atStart => exact ⟨0, Nat.zero_le _, rfl, hrow1, hbel⟩
          case round =>
            clear hbel hb2 hrow1
            obtain ⟨j, hj, rfl, hrow, hbel2⟩ := hrel
            obtain ⟨va, vc, hva⟩ := hrow.shape
            subst hva
            have hb4 : Below w.heap.size w wr := hb0.trans (hbel2.mono hb0.size)
            have hsz : w.heap.size + 1 ≤ wr.heap.size := by have := hbel2.size; rw [HS1.out] at this; exact this
            by_cases hlt3 : j < 128
            · have hjl : j < (seenIn zs b qs).length := by rw [HBL.out]; exact hlt3
              have g1 : wr.cell? ⟨nb, no + j, none⟩ = some (.int .u8 ((seenIn zs b qs).getD j 0)) := (hb4.cell (p := ⟨nb, no + j, none⟩) (World.block_lt_of_cell? _ _ (hnc j hjl))).trans (hnc j hjl)
              have HTK : Hid (cat zs qs b ++ (seenIn zs b qs).take (j + 1) = cat zs qs b ++ (seenIn zs b qs).take j ++ [(seenIn zs b qs).getD j 0]) := by
                rw [List.take_succ_eq_append_getElem hjl, List.append_assoc, List.getD_eq_getElem?_getD, List.getElem?_eq_getElem hjl]; rfl
              have hfl : (cat zs qs b ++ (seenIn zs b qs).take j).length < 140737488355328 := by rw [List.length_append, HCB.out, List.length_take]; omega
              generalize (seenIn zs b qs).getD j 0 = x at g1 HTK
              generalize hL : cat zs qs b ++ (seenIn zs b qs).take j = L at hrow hfl HTK
              clear hL hnc hjl
              go_wp2_with (first | (at_builtin; refine wpList_append8 rfl _ _ rfl _ hrow rfl rfl hfl hsz ?_; intro v' w3 hown3 hbel3 hsz3 hgr3) | go_in)
              have hrow3 : Row8 (w.heap.size + 1) w3 v' (cat zs qs b ++ (seenIn zs b qs).take (j + 1)) := by rw [HTK.out]; exact hown3
              have hbel4 : Below W1.heap.size W1 w3 := by rw [HS1.out] at hbel2 ⊢; exact hbel2.trans hbel3
              clear hown3 hbel3 hgr3 hrow g1
              go_roundw
              case rel => exact ⟨j + 1, by omega, by go_num, hrow3, hbel4⟩
              case measure => simp [intOf]; omega
            · have hrow3 : Row8 (w.heap.size + 1) wr (.slice va (cat zs qs b ++ (seenIn zs b qs).take j).length vc) (cat zs qs (b + 1)) := by
                rw [cat_succ]
                have : (seenIn zs b qs).take j = seenIn zs b qs := List.take_of_length_le (by rw [HBL.out]; omega)
                rw [this] at hrow ⊢; exact hrow
              generalize (cat zs qs b ++ (seenIn zs b qs).take j).length = L at *
              clear hrow hnc
              go_wp2
              go_roundw
              case rel => exact ⟨b + 1, by omega, by go_num, hrow3, hbel2⟩
              case measure => simp [intOf]; omega
    · have hbn : b = n := by omega
      have hO : Own8 (w.heap.size + 1) wr.heap.size wr (.slice ua (cat zs qs b).length uc) (settle zs qs) := by
        rw [← HC.out, ← hbn]; exact hown.own (HCS.out b hb)
      have hln : (cat zs qs b).length = (settle zs qs).length := by rw [← HC.out, hbn]
      have HLN : Hid ((cat zs qs b).length = (settle zs qs).length) := hln
      rw [hln] at hO
      clear hbn hown hln
      go_wp2
      go_ret
      exact ⟨ua, uc, by rw [HLN.out]; rfl, hO.wider (by omega) (Nat.le_refl _), hb2⟩
end Go.Proofs.Ytbadedhliplkeaa
