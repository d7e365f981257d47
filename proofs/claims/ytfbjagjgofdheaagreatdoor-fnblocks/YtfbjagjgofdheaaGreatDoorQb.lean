import Derived.Test.YtfbjagjgofdheaaGreatDoorLg
import Derived.Test.YtfbjagjgofdheaaGreatDoorNc
import Derived.Test.YtfbjagjgofdheaaGreatDoorCd3
namespace Go.Proofs.YtfbjagjgofdheaaGreatDoor
open Go.RowKit
set_option linter.unusedVariables false

abbrev St2 := Nat × Int
/-- l2DrawText: the text's length, its bytes -/
def dtN (zs : List Int) (p : St2) (mx : Nat) : Nat := if 0 < nxV zs (nxS zs p) 3 ∧ 3 < nxV zs p (mx + 1) then (nxV zs p (mx + 1)).toNat % 4 else (nxV zs p (mx + 1)).toNat
def dtL (zs : List Int) (p : St2) : Nat → ByteArray × St2
  | 0 => (ByteArray.empty, p)
  | k + 1 => ((dtL zs p k).1 ++ txB [nxV zs (dtL zs p k).2 256], nxS zs (dtL zs p k).2)
def dtR (zs : List Int) (p : St2) (mx : Nat) : ByteArray × St2 := dtL zs (nxS zs (nxS zs p)) (dtN zs p mx)
theorem txB_size (l : List Int) : (txB l).size = l.length := by
  rw [Lib.size_eq, txB_data, List.length_map]
theorem dtL_size (zs : List Int) (p : St2) (k : Nat) : (dtL zs p k).1.size = k := by
  induction k with
  | zero => rfl
  | succ k ih => rw [dtL, ByteArray.size_append, ih, txB_size]; rfl
theorem dtN_le (zs : List Int) (p : St2) (mx : Nat) (hm : mx ≤ 12) : dtN zs p mx ≤ mx := by
  have h := nxV_in zs p (n := (mx : Int) + 1) (by omega) (by omega)
  unfold dtN
  split <;> omega
theorem dtR_size (zs : List Int) (p : St2) (mx : Nat) (hm : mx ≤ 12) : (dtR zs p mx).1.size ≤ mx := by
  rw [dtR, dtL_size]; exact dtN_le zs p mx hm
/-- a text of one byte -/
theorem conv_one (w : World) (v : Int) (hv : 0 ≤ v ∧ v < 256) (g : Nat) (hg : g = w.heap.size) : (convert 22 9 (.slice (some ⟨g, 0, none⟩) 1 1)).run Tryz.prog (w.alloc (.cells #[.int .u8 v] 5)) = .ok (.string (txB [v])) (w.alloc (.cells #[.int .u8 v] 5)) := by
  have hB : Bts (w.alloc (.cells #[.int .u8 v] 5)) (.slice (some ⟨g, 0, none⟩) 1 1) [v] := by
    refine ⟨fun i => ?_, some ⟨g, 0, none⟩, 1, rfl, fun _ => ⟨g, 0, rfl, fun i hi => ?_⟩⟩
    · match i with
      | 0 => simpa using hv
      | i + 1 => simp
    · have : i = 0 := by simpa using hi
      subst this
      rw [World.cell?_alloc_at _ _ _ _ (by simp [hg])]
      rfl
  exact conv_any hB (by omega)

set_option maxRecDepth 100000 in
set_option maxHeartbeats 2000000 in
theorem l2DrawText_x (base g : Nat) (a : Option Addr) (c : Nat) (zs : List Int) (p : St2) (mx : Nat) (hm : mx ≤ 12) (w : World) (hs : SrcX base g a c zs p w) :
    Calls Tryz.prog 42 #[.pointer (some ⟨g, 0, none⟩), .int .i64 mx] w fun e w' => e = .returned (.string (dtR zs p mx).1) ∧ SrcX base g a c zs (dtR zs p mx).2 w' ∧ Frm (· = g) w w' := by
  have HR : Hid (dtR zs p mx = dtL zs (nxS zs (nxS zs p)) (dtN zs p mx)) := rfl
  have HN : Hid (dtN zs p mx = if 0 < nxV zs (nxS zs p) 3 ∧ 3 < nxV zs p (mx + 1) then (nxV zs p (mx + 1)).toNat % 4 else (nxV zs p (mx + 1)).toNat) := rfl
  have hi := nxV_in zs p (n := (mx : Int) + 1) (by omega) (by omega)
  have HNL : Hid (dtN zs p mx ≤ mx) := dtN_le zs p mx hm
  have hw0 : IntKind.i64.wrap ((mx : Int) + 1) = (mx : Int) + 1 := IntWalk.i64_in _ ⟨by omega, by omega⟩
  obtain ⟨n, hn⟩ : ∃ n : Nat, dtN zs p mx = n := ⟨_, rfl⟩
  obtain ⟨p2, HP2⟩ : ∃ p2, Hid (nxS zs (nxS zs p) = p2) := ⟨_, rfl⟩
  rw [HR.out, hn, HP2.out]
  rw [hn] at HN HNL
  go_enter Tryz.func42, Tryz.ntmps42
  go_wp2_with fail
  refine (l1Next_x base g a c zs p ((mx : Int) + 1) (by omega) (by omega) _ hs).mono ?_
  rintro e w1 ⟨rfl, hs1, hf1⟩
  go_wp2_with fail
  refine (l1Next_x base g a c zs _ 3 (by decide) (by decide) _ hs1).mono ?_
  rintro e w2 ⟨rfl, hs2, hf2⟩
  have hf2' := hf1.trans hf2
  rw [HP2.out] at hs2
  have HS2 : Hid (SrcX base g a c zs p2 w2) := hs2
  have HF2 : Hid (Frm (· = g) w w2) := hf2'
  clear hs hs1 hf1 hf2 hs2 hf2' HR hw0
  generalize nxV zs (nxS zs p) 3 = q at *
  generalize nxV zs p (mx + 1) = n0 at *
  have HN2 : Hid (n = if 0 < q ∧ 3 < n0 then n0.toNat % 4 else n0.toNat) := HN.out
  have hn12 : n ≤ 12 := by have := HNL.out; omega
  clear HN HNL hn HP2
  have hcase : (¬ 0 < q) ∨ (0 < q ∧ ¬ 3 < n0) ∨ (0 < q ∧ 3 < n0) := by omega
  rcases hcase with h1 | ⟨h1, h2⟩ | ⟨h1, h2⟩
  all_goals
    first
      | (have hne : n0 = (n : Int) := by rw [HN2.out, if_neg (by omega)]; omega
         subst hne)
      | (have hne : n0.tmod 4 = (n : Int) := by rw [HN2.out, if_pos ⟨h1, h2⟩, Int.tmod_eq_emod_of_nonneg hi.1]; omega
         have hne2 : IntKind.i64.wrap (n0.tmod 4) = (n : Int) := by rw [hne]; exact IntWalk.i64_in _ ⟨by omega, by omega⟩)
    go_wp2
    go_loopw [6, 7] (fun t i wr => ∃ k : Nat, k ≤ n ∧ i = .int .i64 k ∧ t = .string (dtL zs p2 k).1 ∧ SrcX base g a c zs (dtL zs p2 k).2 wr ∧ Frm (· = g) w wr) (fun _ i _ => n - (intOf i).toNat)
    case atStart => exact ⟨0, Nat.zero_le _, rfl, rfl, HS2.out, HF2.out⟩
    case round =>
      obtain ⟨k, hk, rfl, rfl, hsr, hfr⟩ := hrel
      by_cases hlt : k < n
      · have hki : (k : Int) < (n : Int) := by omega
        have HST : Hid (dtL zs p2 (k + 1) = ((dtL zs p2 k).1 ++ txB [nxV zs (dtL zs p2 k).2 256], nxS zs (dtL zs p2 k).2)) := rfl
        have hsz := dtL_size zs p2 k
        have hv := nxV_in zs (dtL zs p2 k).2 (n := 256) (by decide) (by decide)
        obtain ⟨t, ht⟩ : ∃ t, (dtL zs p2 k).1 = t := ⟨_, rfl⟩
        obtain ⟨pk, hpk⟩ : ∃ pk, (dtL zs p2 k).2 = pk := ⟨_, rfl⟩
        rw [ht] at hsz HST ⊢
        rw [hpk] at hsr HST hv
        go_wp2_with fail
        refine (l1Next_x base g a c zs pk 256 (by decide) (by decide) _ hsr).mono ?_
        rintro e w3 ⟨rfl, hs3, hf3⟩
        have hf4 := hfr.trans hf3
        generalize nxV zs pk 256 = v at *
        have hcv := conv_one w3 v hv w3.heap.size rfl
        have hwv : IntKind.u8.wrap v = v := IntWalk.u8_in _ ⟨by omega, by omega⟩
        have hts : (txB [v]).size = 1 := txB_size [v]
        have hadd : ∀ W : World, (Op.stringOp .add t (txB [v])).run Tryz.prog W = .ok (.string (t ++ txB [v])) W := fun W => run_string_add_sum (P := Tryz.prog) (w := W) t (txB [v]) (by omega)
        have HS4 : Hid (SrcX base g a c zs (nxS zs pk) (w3.alloc (.cells #[.int .u8 v] 5))) := hs3.below (belowA _ _)
        have HF4 : Hid (Frm (· = g) w (w3.alloc (.cells #[.int .u8 v] 5))) := hf4.trans (Frm.of_below (belowA _ _))
        clear hs3 hf3 hf4 hsr hfr
        go_wp2
        go_roundw
        case rel => exact ⟨k + 1, by omega, by go_num, by rw [HST.out], by rw [HST.out]; exact HS4.out, HF4.out⟩
        case measure => simp [intOf]; omega
      · have hki : ¬ (k : Int) < (n : Int) := by omega
        obtain rfl : k = n := by omega
        go_wp2
        go_ret
        exact ⟨rfl, hsr, hfr⟩
end Go.Proofs.YtfbjagjgofdheaaGreatDoor

namespace Go.Proofs.YtfbjagjgofdheaaGreatDoor
open Go.RowKit
set_option linter.unusedVariables false

/-- e.Key <= prev -/
def kLeb (a b : ByteArray) : Bool := Op.bytesLess a.toList b.toList || a.toList == b.toList
/-- a key is drawn behind pr; none: no key is to be had -/
def dnK (zs : List Int) (pr : Option ByteArray) (p : St2) : Option (ByteArray × St2) :=
  match pr with
  | none => some (dtR zs p 12)
  | some q => if kLeb (dtR zs p 12).1 q = true then (if q.size < 12 then some (q ++ txB [nxV zs (dtR zs p 12).2 256], nxS zs (dtR zs p 12).2) else none) else some (dtR zs p 12)
/-- an element with that key -/
def dnE (zs : List Int) (kd : Int) (key : ByteArray) (p : St2) : E3 × St2 := if kd = 1 then ((key, (dtR zs p 10).1, 0), (dtR zs p 10).2) else ((key, ByteArray.empty, 2 + nxV zs p 510), nxS zs p)
def lastK (es : List E3) : Option ByteArray := es.getLast?.map (·.1)
/-- up to m elements more -/
def dnL (zs : List Int) (kd : Int) : List E3 → St2 → Nat → List E3 × St2
  | es, p, 0 => (es, p)
  | es, p, m + 1 => match dnK zs (lastK es) p with
    | none => (es, (dtR zs p 12).2)
    | some r => dnL zs kd (es ++ [(dnE zs kd r.1 r.2).1]) (dnE zs kd r.1 r.2).2 m
theorem dnL_some {zs : List Int} {kd : Int} {es : List E3} {p : St2} {m : Nat} {r : ByteArray × St2} (h : dnK zs (lastK es) p = some r) : dnL zs kd es p (m + 1) = dnL zs kd (es ++ [(dnE zs kd r.1 r.2).1]) (dnE zs kd r.1 r.2).2 m := by
  rw [dnL, h]
theorem dnL_none {zs : List Int} {kd : Int} {es : List E3} {p : St2} {m : Nat} (h : dnK zs (lastK es) p = none) : dnL zs kd es p (m + 1) = (es, (dtR zs p 12).2) := by
  rw [dnL, h]
/-- the kind drawn, and how many -/
def dnKd (zs : List Int) (p : St2) : Int := 1 + nxV zs p 2
def dnLow (zs : List Int) (p : St2) : Prop := dnKd zs p = 2 ∧ nxV zs (nxS zs p) 6 < 2
def dnN (zs : List Int) (p : St2) : Int := if dnKd zs p = 2 ∧ nxV zs (nxS zs p) 6 < 2 then 2 + nxV zs (nxS zs (nxS zs p)) 2 else nxV zs (nxS zs p) 6
def dnP (zs : List Int) (p : St2) : St2 := if dnKd zs p = 2 ∧ nxV zs (nxS zs p) 6 < 2 then nxS zs (nxS zs (nxS zs p)) else nxS zs (nxS zs p)
def dnQ (zs : List Int) (p : St2) : List E3 × St2 := dnL zs (dnKd zs p) [] (dnP zs p) (dnN zs p).toNat
def dnV (zs : List Int) (p : St2) : Int × List E3 := if dnKd zs p = 2 ∧ (dnQ zs p).1.length < 2 then (1, []) else (dnKd zs p, (dnQ zs p).1)
theorem dnN_in (zs : List Int) (p : St2) : 0 ≤ dnN zs p ∧ dnN zs p ≤ 5 := by
  have h1 := nxV_in zs (nxS zs p) (n := 6) (by decide) (by decide)
  have h2 := nxV_in zs (nxS zs (nxS zs p)) (n := 2) (by decide) (by decide)
  unfold dnN
  split <;> omega
theorem dnKd_in (zs : List Int) (p : St2) : dnKd zs p = 1 ∨ dnKd zs p = 2 := by
  have h1 := nxV_in zs p (n := 2) (by decide) (by decide)
  unfold dnKd
  omega

theorem bless_app : ∀ (l m : List UInt8), m ≠ [] → Op.bytesLess l (l ++ m) = true
  | [], [], h => absurd rfl h
  | [], b :: m, _ => rfl
  | a :: l, m, h => by simp [Op.bytesLess, bless_app l m h, UInt8.lt_irrefl]
theorem kLt_app (q t : ByteArray) (h : 0 < t.size) : kLt q (q ++ t) := by
  unfold kLt
  have hne : t.toList ≠ [] := by
    rw [ByteArray.toList_eq]
    intro e
    have hq := congrArg List.length e
    rw [← Lib.size_eq, List.length_nil] at hq
    omega
  have : (q ++ t).toList = q.toList ++ t.toList := by
    rw [ByteArray.toList_eq, ByteArray.toList_eq, ByteArray.toList_eq, ByteArray.data_append, Array.toList_append]
  rw [this]
  exact bless_app _ _ hne
theorem kLt_of_not {a b : ByteArray} (h : ¬ kLeb a b = true) : kLt b a := by
  unfold kLeb at h
  simp only [Bool.or_eq_true, not_or, Bool.not_eq_true] at h
  rcases bless_total _ _ h.1 with e | e
  · have := h.2
    rw [e] at this
    simp at this
  · exact e
/-- all elements so far may stand -/
def dnOK (kd : Int) (es : List E3) : Prop := ∀ i, i < es.length → keyOK es i ∧ entOK kd (es.getD i e0)
theorem dnK_ok {zs : List Int} {pr : Option ByteArray} {p : St2} {r : ByteArray × St2} (h : dnK zs pr p = some r) : r.1.size ≤ 12 ∧ ∀ q, pr = some q → kLt q r.1 := by
  have hs := dtR_size zs p 12 (by omega)
  unfold dnK at h
  cases pr with
  | none =>
    simp only [Option.some.injEq] at h
    subst h
    exact ⟨hs, fun q hq => by cases hq⟩
  | some q =>
    simp only at h
    split at h
    · split at h
      · simp only [Option.some.injEq] at h
        subst h
        have ht : (txB [nxV zs (dtR zs p 12).2 256]).size = 1 := txB_size _
        refine ⟨?_, fun q' hq => ?_⟩
        · rw [ByteArray.size_append, ht]; omega
        · simp only [Option.some.injEq] at hq; subst hq; exact kLt_app _ _ (by omega)
      · cases h
    · rename_i hle
      simp only [Option.some.injEq] at h
      subst h
      refine ⟨hs, fun q' hq => ?_⟩
      simp only [Option.some.injEq] at hq; subst hq; exact kLt_of_not hle
theorem dnE_ok {zs : List Int} {kd : Int} (hk : kd = 1 ∨ kd = 2) (key : ByteArray) (p : St2) : entOK kd (dnE zs kd key p).1 ∧ (dnE zs kd key p).1.1 = key := by
  unfold dnE
  rcases hk with rfl | rfl
  · rw [if_pos rfl]
    exact ⟨.inl ⟨rfl, dtR_size zs p 10 (by omega), rfl⟩, rfl⟩
  · rw [if_neg (by decide)]
    have h := nxV_in zs p (n := 510) (by decide) (by decide)
    exact ⟨.inr ⟨rfl, rfl, by show 2 ≤ 2 + nxV zs p 510; omega, by show 2 + nxV zs p 510 ≤ 511; omega⟩, rfl⟩
theorem getD_left {es : List E3} {e : E3} {i : Nat} (h : i < es.length) : (es ++ [e]).getD i e0 = es.getD i e0 := by
  simp only [List.getD_eq_getElem?_getD]; rw [List.getElem?_append_left h]
theorem getD_last {es : List E3} {e : E3} : (es ++ [e]).getD es.length e0 = e := by
  simp
theorem lastK_at {es : List E3} (h : 0 < es.length) : lastK es = some (es.getD (es.length - 1) e0).1 := by
  unfold lastK
  rw [List.getLast?_eq_getElem?, List.getElem?_eq_getElem (by omega)]
  simp [show es.length - 1 < es.length by omega]
theorem dnOK_snoc {kd : Int} {es : List E3} {e : E3} (h : dnOK kd es) (he : entOK kd e) (hs : e.1.size ≤ 12) (hl : ∀ q, lastK es = some q → kLt q e.1) : dnOK kd (es ++ [e]) := fun i hi => by
  rw [List.length_append] at hi
  by_cases hlt : i < es.length
  · obtain ⟨⟨h1, h2⟩, h3⟩ := h i hlt
    refine ⟨⟨by rw [getD_left hlt]; exact h1, fun h0 => ?_⟩, by rw [getD_left hlt]; exact h3⟩
    rw [getD_left hlt, getD_left (by omega)]; exact h2 h0
  · have e1 : i = es.length := by simp at hi; omega
    subst e1
    refine ⟨⟨by rw [getD_last]; exact hs, fun h0 => ?_⟩, by rw [getD_last]; exact he⟩
    rw [getD_last, getD_left (by omega)]
    exact hl _ (lastK_at h0)
theorem dnL_ok {zs : List Int} {kd : Int} (hk : kd = 1 ∨ kd = 2) : ∀ (m : Nat) (es : List E3) (p : St2), dnOK kd es → dnOK kd (dnL zs kd es p m).1 ∧ (dnL zs kd es p m).1.length ≤ es.length + m
  | 0, es, p, h => ⟨h, by simp [dnL]⟩
  | m + 1, es, p, h => by
    cases hc : dnK zs (lastK es) p with
    | none => rw [dnL_none hc]; exact ⟨h, by show es.length ≤ es.length + (m + 1); omega⟩
    | some r =>
      rw [dnL_some hc]
      obtain ⟨h1, h2⟩ := dnK_ok hc
      obtain ⟨h3, h4⟩ := dnE_ok (zs := zs) hk r.1 r.2
      have ih := dnL_ok (zs := zs) hk m (es ++ [(dnE zs kd r.1 r.2).1]) (dnE zs kd r.1 r.2).2 (dnOK_snoc h h3 (by rw [h4]; exact h1) (fun q hq => by rw [h4]; exact h2 q hq))
      refine ⟨ih.1, Nat.le_trans ih.2 ?_⟩
      simp
      omega
/-- the drawn node may be laid down -/
theorem dnV_ok (zs : List Int) (p : St2) : nodeOK (dnV zs p).1 (dnV zs p).2 := by
  have hk := dnKd_in zs p
  have hn := dnN_in zs p
  obtain ⟨h1, h2⟩ := dnL_ok (zs := zs) hk (dnN zs p).toNat [] (dnP zs p) (fun i hi => by simp at hi)
  unfold dnV
  split
  · exact ⟨.inl ⟨rfl, by simp⟩, fun i hi => by simp at hi⟩
  · rename_i hno
    refine ⟨?_, h1⟩
    have h3 : (dnQ zs p).1.length ≤ 5 := by unfold dnQ; simp at h2; omega
    rcases hk with e | e
    · exact .inl ⟨e, h3⟩
    · exact .inr ⟨e, by show 2 ≤ (dnQ zs p).1.length; simp only [not_and] at hno; have := hno e; omega, h3⟩
end Go.Proofs.YtfbjagjgofdheaaGreatDoor

namespace Go.Proofs.YtfbjagjgofdheaaGreatDoor
open Go.RowKit
set_option linter.unusedVariables false

/-- a text, filled up with noughts -/
def padT (s : ByteArray) (n : Nat) : List Int := sb s ++ List.replicate (n - s.size) 0
theorem sb_get (s : ByteArray) (k : Nat) (h : k < s.size) : (sb s).getD k 0 = ((s[k]'h).toNat : Int) := by
  have h2 : k < s.data.toList.length := by rw [← Lib.size_eq]; exact h
  rw [sb, List.getD_eq_getElem?_getD, List.getElem?_map, List.getElem?_eq_getElem h2]
  rfl
theorem padT_length (s : ByteArray) (n : Nat) (h : s.size ≤ n) : (padT s n).length = n := by simp [padT, sb_length]; omega
theorem padT_text (s : ByteArray) (n : Nat) : textB s n = [(s.size : Int)] ++ padT s n := by simp [textB, padT]
theorem padT_in (s : ByteArray) (n k : Nat) (h : k < s.size) : (padT s n).getD k 0 = (sb s).getD k 0 := by
  simp only [padT, List.getD_eq_getElem?_getD]; rw [List.getElem?_append_left (by rw [sb_length]; exact h)]
theorem padT_out (s : ByteArray) (n k : Nat) (h : ¬ k < s.size) : (padT s n).getD k 0 = 0 := by
  simp only [padT, List.getD_eq_getElem?_getD]; rw [List.getElem?_append_right (by rw [sb_length]; omega)]
  by_cases hk : k - (sb s).length < n - s.size <;> simp [hk]
theorem take_step (l : List Int) (k : Nat) (h : k < l.length) : l.take (k + 1) = l.take k ++ [l.getD k 0] := by
  rw [List.take_succ_eq_append_getElem h]; simp [h]

set_option maxRecDepth 100000 in
set_option maxHeartbeats 2000000 in
theorem l2Text_any (u : Value) (zs : List Int) (s : ByteArray) (n : Nat) (base : Nat) (w : World) (hu : Row8 base w u zs) (hb : base ≤ w.heap.size) (hz : zs.length ≤ 1048576) (hn : n ≤ 12) (hs : s.size ≤ n) :
    Calls Tryz.prog 39 #[u, .string s, .int .i64 n] w fun e w' => ∃ u', e = .returned u' ∧ Row8 base w' u' (zs ++ textB s n) ∧ Below base w w' := by
  obtain ⟨ua, uc, hua⟩ := hu.shape
  subst hua
  have hfl : zs.length < 140737488355328 := by omega
  have hw : IntKind.u8.wrap (s.size : Int) = (s.size : Int) := IntWalk.u8_in _ ⟨by omega, by omega⟩
  have hpl := padT_length s n hs
  go_enter Tryz.func39, Tryz.ntmps39
  go_wp2_with (first | (at_builtin; refine wpList_append8 rfl _ _ rfl _ hu rfl rfl hfl (by omega) ?_; intro v' w1 hown1 hbel1 hsz1 hgr1) | go_in)
  have HR1 : Hid (Row8 base w1 v' (zs ++ [(s.size : Int)])) := hown1
  have HX1 : Hid (Below base w w1) := hbel1
  clear hown1 hbel1 hsz1 hgr1 hu hfl
  go_loopw [0, 7] (fun u i wr => ∃ k : Nat, k ≤ n ∧ i = .int .i64 k ∧ Row8 base wr u (zs ++ [(s.size : Int)] ++ (padT s n).take k) ∧ Below base w wr) (fun _ i _ => n - (intOf i).toNat)
  case atStart => exact ⟨0, Nat.zero_le _, rfl, by simpa using HR1.out, HX1.out⟩
  case round =>
    obtain ⟨k, hk, rfl, hown, hbl⟩ := hrel
    obtain ⟨ua, uc, hua⟩ := hown.shape
    subst hua
    have hsz := hbl.size
    have hfl : (zs ++ [(s.size : Int)] ++ (padT s n).take k).length < 140737488355328 := by simp; omega
    by_cases hlt : k < n
    · have hki : (k : Int) < (n : Int) := by omega
      have HSN : Hid (zs ++ [(s.size : Int)] ++ (padT s n).take (k + 1) = (zs ++ [(s.size : Int)] ++ (padT s n).take k) ++ [(padT s n).getD k 0]) := by rw [Hid, take_step _ _ (by omega)]; simp
      generalize zs ++ [(s.size : Int)] ++ (padT s n).take k = ys at *
      by_cases hin : k < s.size
      · have hin2 : (k : Int) < (s.size : Int) := by omega
        go_wp2_with (first | (at_builtin; refine wpList_append8 rfl _ _ rfl _ hown rfl rfl hfl (by omega) ?_; intro v' w1 hown1 hbel1 hsz1 hgr1) | go_in)
        have HP : Hid ((padT s n).getD k 0 = ((s[k]'hin).toNat : Int)) := by
          rw [Hid, padT_in s n k hin, sb_get s k hin]
        rw [HP.out] at HSN
        rw [← HSN.out] at hown1
        go_roundw
        case rel => exact ⟨k + 1, by omega, by go_num, hown1, hbl.trans hbel1⟩
        case measure => simp [intOf]; omega
      · have hin2 : ¬ (k : Int) < (s.size : Int) := by omega
        have HP : Hid ((padT s n).getD k 0 = 0) := padT_out s n k hin
        go_wp2_with (first | (at_builtin; refine wpList_append8 rfl _ _ rfl _ hown rfl rfl hfl (by omega) ?_; intro v' w1 hown1 hbel1 hsz1 hgr1) | go_in)
        rw [HP.out] at HSN
        rw [← HSN.out] at hown1
        go_roundw
        case rel => exact ⟨k + 1, by omega, by go_num, hown1, hbl.trans hbel1⟩
        case measure => simp [intOf]; omega
    · obtain rfl : k = n := by omega
      have HE : Hid (zs ++ [(s.size : Int)] ++ (padT s k).take k = zs ++ textB s k) := by rw [Hid, List.take_of_length_le (by omega), padT_text, List.append_assoc]
      have hown2 : Row8 base wr (.slice ua (zs ++ [(s.size : Int)] ++ (padT s k).take k).length uc) (zs ++ textB s k) := by rw [← HE.out]; exact hown
      go_wp2
      go_ret
      exact ⟨_, rfl, hown2, hbl⟩
end Go.Proofs.YtfbjagjgofdheaaGreatDoor
