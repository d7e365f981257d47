import Derived.Test.YtbadedhliplkeaaPMark
namespace Go.Proofs.Ytbadedhliplkeaa
open Go.RowKit

/-- the device value v reads in w as B, zs, ps -/
def DRead (w : World) (v : Value) (B : Int) (zs : List Int) (ps : List (Int × List Int)) : Prop :=
  ∃ da dc ca cc, v = .agg #[.int .i64 B, .slice da zs.length dc, .slice ca ps.length cc] ∧ Bts w (.slice da zs.length dc) zs ∧ PRead w (.slice ca ps.length cc) ps

/-- and its memory lies in blocks from lo up to hi, disk and cache apart -/
def DOwn (lo hi : Nat) (w : World) (v : Value) (B : Int) (zs : List Int) (ps : List (Int × List Int)) : Prop :=
  ∃ da dc ca cc l1 h1 l2 h2, v = .agg #[.int .i64 B, .slice da zs.length dc, .slice ca ps.length cc] ∧ lo ≤ l1 ∧ h1 ≤ hi ∧ lo ≤ l2 ∧ h2 ≤ hi ∧ (h1 ≤ l2 ∨ h2 ≤ l1) ∧ Own8 l1 h1 w (.slice da zs.length dc) zs ∧ POwn l2 h2 w (.slice ca ps.length cc) ps

theorem DOwn.read {lo hi : Nat} {w : World} {v : Value} {B : Int} {zs : List Int} {ps : List (Int × List Int)} (h : DOwn lo hi w v B zs ps) : DRead w v B zs ps := by
  obtain ⟨da, dc, ca, cc, _, _, _, _, hv, _, _, _, _, _, h1, h2⟩ := h
  exact ⟨da, dc, ca, cc, hv, h1.bts, h2.read⟩

theorem DRead.below {w w' : World} {v : Value} {B : Int} {zs : List Int} {ps : List (Int × List Int)} (h : DRead w v B zs ps) (k : Below w.heap.size w w') : DRead w' v B zs ps := by
  obtain ⟨da, dc, ca, cc, hv, h1, h2⟩ := h
  exact ⟨da, dc, ca, cc, hv, h1.below k, h2.below k⟩

theorem DOwn.below {lo hi : Nat} {w w' : World} {v : Value} {B : Int} {zs : List Int} {ps : List (Int × List Int)} (h : DOwn lo hi w v B zs ps) (k : Below w.heap.size w w') : DOwn lo hi w' v B zs ps := by
  obtain ⟨da, dc, ca, cc, l1, h1, l2, h2, hv, q1, q2, q3, q4, q5, k1, k2⟩ := h
  exact ⟨da, dc, ca, cc, l1, h1, l2, h2, hv, q1, q2, q3, q4, q5, k1.below k, k2.below k⟩

theorem DOwn.upd {lo hi lo' hi' : Nat} {w w' : World} {v : Value} {B : Int} {zs : List Int} {ps : List (Int × List Int)} (h : DOwn lo hi w v B zs ps) (k : Upd lo' hi' w w') (hd : hi ≤ lo' ∨ hi' ≤ lo) : DOwn lo hi w' v B zs ps := by
  obtain ⟨da, dc, ca, cc, l1, h1, l2, h2, hv, q1, q2, q3, q4, q5, k1, k2⟩ := h
  exact ⟨da, dc, ca, cc, l1, h1, l2, h2, hv, q1, q2, q3, q4, q5, k1.upd k (by omega), k2.upd k (by omega)⟩

theorem DOwn.shape {lo hi : Nat} {w : World} {v : Value} {B : Int} {zs : List Int} {ps : List (Int × List Int)} (h : DOwn lo hi w v B zs ps) : ∃ da dc ca cc, v = .agg #[.int .i64 B, .slice da zs.length dc, .slice ca ps.length cc] := by
  obtain ⟨da, dc, ca, cc, _, _, _, _, hv, _⟩ := h
  exact ⟨da, dc, ca, cc, hv⟩

set_option maxHeartbeats 400000 in
theorem eqDev (B : Int) (v v' : Value) (zs : List Int) (ps : List (Int × List Int)) (w : World) (h : DRead w v B zs ps) (h' : DRead w v' B zs ps) (hz : zs.length ≤ 281474976710656) (hn : PSmall ps) :
    Calls Try.prog 12 #[v, v'] w fun e w' => e = .returned (.bool true) ∧ Below w.heap.size w w' := by
  obtain ⟨da, dc, ca, cc, rfl, h1, h2⟩ := h
  obtain ⟨da', dc', ca', cc', rfl, h1', h2'⟩ := h'
  exact eqDevice_same B _ _ _ _ zs ps w h1 h1' h2 h2' hz hn

set_option maxHeartbeats 400000 in
theorem markDevice_any (lo hi : Nat) (B : Int) (v : Value) (zs : List Int) (ps : List (Int × List Int)) (k : Int) (w : World) (h : DOwn lo hi w v B zs ps) (hhi : hi ≤ w.heap.size) (hk : 0 ≤ k) (hn : k + zs.length + sumP ps ≤ 9223372036854775806) (hl : ps.length ≤ 281474976710656) :
    Calls Try.prog 15 #[v, .int .i64 k] w fun e w' => e = .returned (.int .i64 (k + zs.length + sumP ps)) ∧ DOwn lo hi w' v B (marks k zs.length) (markP (k + zs.length) ps) ∧ Upd lo hi w w' := by
  obtain ⟨da, dc, ca, cc, l1, h1, l2, h2, rfl, q1, q2, q3, q4, q5, k1, k2⟩ := h
  have hs0 := sumP_nonneg ps
  have hb0 : Below w.heap.size w (w.alloc (.cells #[.int .i64 B, .slice da zs.length dc, .slice ca ps.length cc] 25)) := (Below.refl _ _).alloc (Nat.le_refl _) _
  have e1 := k1.below hb0
  have e2 := k2.below hb0
  go_enter Try.func15, Try.ntmps15
  go_wp2_with fail
  refine (markByteS_any l1 h1 _ zs _ _ e1 hk (by omega)).mono ?_
  rintro e w1 ⟨rfl, o1, u1⟩
  have e3 := e2.upd u1 (by omega)
  have c1 : w1.cell? ⟨w.heap.size, 2, none⟩ = some (.slice ca ps.length cc) := by
    rw [World.cell?_of_block (w := w.alloc (.cells #[.int .i64 B, .slice da zs.length dc, .slice ca ps.length cc] 25)) (a := ⟨w.heap.size, 2, none⟩) (u1.block w.heap.size (by simp) (by omega))]
    exact World.cell?_alloc_at _ _ _ _ rfl
  go_wp2_with fail
  refine (markPendingS_any l2 h2 _ ps _ _ e3 (by omega) (by omega) hl).mono ?_
  rintro e w2 ⟨rfl, o2, u2⟩
  have o3 := o1.upd u2 (by omega)
  have u3 : Upd lo hi w w2 := ((Upd.of_below lo hi hb0).trans (u1.wider q1 q2)).trans (u2.wider q3 q4)
  clear u1 u2 o1 e3 c1 e1 e2 k1 k2
  go_wp2
  go_ret
  exact ⟨rfl, ⟨da, dc, ca, cc, l1, h1, l2, h2, by rw [marks_length, markP_length], q1, q2, q3, q4, q5, by rw [marks_length]; exact o3, by rw [markP_length]; exact o2⟩, u3⟩

set_option maxHeartbeats 400000 in
theorem heldDevice_any (B : Int) (v : Value) (n : Nat) (ps : List (Int × List Int)) (k : Int) (w : World) (h : DRead w v B (marks k n) (markP (k + n) ps)) (hk : 0 ≤ k) (hn : k + n + sumP ps ≤ 9223372036854775806) (hl : ps.length ≤ 281474976710656) :
    Calls Try.prog 16 #[v, .int .i64 k] w fun e w' => e = .returned (.int .i64 (k + n + sumP ps)) ∧ Below w.heap.size w w' := by
  obtain ⟨da, dc, ca, cc, rfl, h1, h2⟩ := h
  have hs0 := sumP_nonneg ps
  have hb0 : Below w.heap.size w (w.alloc (.cells #[.int .i64 B, .slice da (marks k n).length dc, .slice ca (markP (k + n) ps).length cc] 25)) := (Below.refl _ _).alloc (Nat.le_refl _) _
  have e1 := h1.below hb0
  have e2 := h2.below hb0
  rw [marks_length, markP_length] at *
  go_enter Try.func16, Try.ntmps16
  go_wp2_with fail
  refine (heldByteS_any _ k n _ e1 hk (by omega)).mono ?_
  rintro e w1 ⟨rfl, rfl⟩
  go_wp2_with fail
  refine (heldPendingS_any _ ps _ _ e2 (by omega) (by omega) hl).mono ?_
  rintro e w1 ⟨rfl, rfl⟩
  clear e1 e2 h1 h2
  go_wp2
  go_ret
  exact ⟨rfl, hb0⟩
end Go.Proofs.Ytbadedhliplkeaa
