import Derived.Test.YtbadedhliplkeaaWr2
namespace Go.Proofs.Ytbadedhliplkeaa
open Go.RowKit

/-- the code of a write of m bytes into block q, n writes lying in the cache -/
def wC (B : Int) (n : Nat) (q : Int) (m : Nat) : Int := if inB q 0 (B - 1) = true then (if m = 128 then (if n < 2048 then 0 else 4) else 3) else 2
/-- the cache behind it -/
def wP (B : Int) (ps : List (Int × List Int)) (q : Int) (ds : List Int) : List (Int × List Int) := if wC B ps.length q ds.length = 0 then ps ++ [(q, ds)] else ps

theorem wC_yes {B : Int} {n : Nat} {q : Int} {m : Nat} : wC B n q m = 0 ↔ inB q 0 (B - 1) = true ∧ m = 128 ∧ n < 2048 := by
  unfold wC
  constructor
  · intro h
    split at h
    · split at h
      · split at h
        · exact ⟨by assumption, by assumption, by assumption⟩
        · cases h
      · cases h
    · cases h
  · rintro ⟨h1, h2, h3⟩
    rw [if_pos h1, if_pos h2, if_pos h3]

set_option maxRecDepth 100000 in
set_option maxHeartbeats 2000000 in
theorem write_no (p : Nat) (B q : Int) (u : Value) (ca ea : Option Addr) (cc ec : Nat) (n m : Nat) (w : World) (hP : Box3 w p (.int .i64 B) u (.slice ca n cc) 25) (hB1 : 1 ≤ B) (hB2 : B ≤ 512) (hno : ¬ wC B n q m = 0) (hm : m ≤ 1048576) (hn : n ≤ 1048576) :
    Calls Try.prog 46 #[.pointer (some ⟨p, 0, none⟩), .int .i64 q, .slice ea m ec] w fun e w' => e = .returned (.int .i64 (wC B n q m)) ∧ Below w.heap.size w w' := by
  obtain ⟨p0, p1, p2⟩ := hP.cells
  cases hq : inB q 0 (B - 1) with
  | false =>
    have he : wC B n q m = 2 := by unfold wC; rw [hq]; rfl
    rw [he]
    go_enter Try.func46, Try.ntmps46
    go_wp2_with fail
    refine (has_any B q _ _ _ hB1 hB2).mono ?_
    rintro e w1 ⟨rfl, hb1⟩
    rw [hq]
    clear p0 p1 p2 hP hq hno he
    go_wp2
    go_ret
    exact ⟨rfl, hb1⟩
  | true =>
    by_cases hm1 : m = 128
    · have hn1 : ¬ n < 2048 := fun hh => hno (wC_yes.2 ⟨hq, hm1, hh⟩)
      have he : wC B n q m = 4 := by unfold wC; rw [if_pos hq, if_pos hm1, if_neg hn1]
      rw [he]
      subst hm1
      have hl : ¬ (n : Int) < 2048 := by omega
      go_enter Try.func46, Try.ntmps46
      go_wp2_with fail
      refine (has_any B q _ _ _ hB1 hB2).mono ?_
      rintro e w1 ⟨rfl, hb1⟩
      rw [hq]
      have hP1 := hP.below hb1
      clear p0 p1 p2 hP hq hno he
      obtain ⟨p0, p1, p2⟩ := hP1.cells
      go_wp2
      go_ret
      exact ⟨rfl, hb1⟩
    · have he : wC B n q m = 3 := by unfold wC; rw [if_pos hq, if_neg hm1]
      rw [he]
      have hl : ¬ (m : Int) = 128 := by omega
      have hne : ((m : Int) != 128) = true := by simp [hl]
      go_enter Try.func46, Try.ntmps46
      go_wp2_with fail
      refine (has_any B q _ _ _ hB1 hB2).mono ?_
      rintro e w1 ⟨rfl, hb1⟩
      rw [hq]
      clear p0 p1 p2 hP hq hno he
      go_wp2
      go_ret
      exact ⟨rfl, hb1⟩

theorem write_any (S : Nat → Prop) (p : Nat) (B q : Int) (u c : Value) (ea : Option Addr) (ec : Nat) (ds : List Int) (ps : List (Int × List Int)) (w : World) (hP : Box3 w p (.int .i64 B) u c 25) (hR : PRow S w c ps) (hpS : ¬ S p) (hS : ∀ k, w.heap.size ≤ k → S k) (hB1 : 1 ≤ B) (hB2 : B ≤ 512)
    (hd : ds.length ≤ 1048576) (hn : ps.length ≤ 1048576) (hv : Bts w (.slice ea ds.length ec) ds) :
    Calls Try.prog 46 #[.pointer (some ⟨p, 0, none⟩), .int .i64 q, .slice ea ds.length ec] w fun e w' => ∃ c', e = .returned (.int .i64 (wC B ps.length q ds.length)) ∧ Box3 w' p (.int .i64 B) u c' 25 ∧ PRow S w' c' (wP B ps q ds) ∧ Frm (fun k => S k ∨ k = p) w w' := by
  unfold wP
  by_cases h : wC B ps.length q ds.length = 0
  · obtain ⟨h1, h2, h3⟩ := wC_yes.1 h
    rw [if_pos h, h]
    exact write_yes S p B q u c ea ec ds ps w hP hR hpS hS hB1 hB2 h1 h2 h3 hv
  · rw [if_neg h]
    obtain ⟨ca, cc, rfl⟩ := hR.form
    refine (write_no p B q u ca ea cc ec ps.length ds.length w hP hB1 hB2 h hd hn).mono fun e w' hq => ?_
    obtain ⟨rfl, hb⟩ := hq
    exact ⟨_, rfl, hP.below hb, hR.below hb, Frm.of_below hb⟩
end Go.Proofs.Ytbadedhliplkeaa
