import Derived.Test.YtbadedhliplkeaaFl7
import Derived.Maps.AppendAt
namespace Go.Proofs.Ytbadedhliplkeaa
open Go.RowKit

/-- the []Pending value v reads in w as ps; spine and bytes lie in blocks of S, each in its own -/
def POwnS (S : Nat → Prop) (w : World) (v : Value) (ps : List (Int × List Int)) : Prop :=
  ∃ a cap, v = .slice a ps.length cap ∧ (0 < ps.length → ∃ b off, a = some ⟨b, off, none⟩ ∧ S b ∧ b < w.heap.size ∧ ∃ g : Nat → Nat, (∀ i, i < ps.length → S (g i) ∧ g i ≠ b ∧ g i < w.heap.size ∧ PEl w b off (g i) i (ps.getD i (0, []))) ∧ (∀ i j, i < ps.length → j < ps.length → g i = g j → i = j))

theorem POwnS.kept {S : Nat → Prop} {w w' : World} {v : Value} {ps : List (Int × List Int)} (h : POwnS S w v ps) (hs : w.heap.size ≤ w'.heap.size) (k : ∀ b, S b → b < w.heap.size → w'.heap[b]? = w.heap[b]?) : POwnS S w' v ps := by
  obtain ⟨a, cap, hv, hc⟩ := h
  refine ⟨a, cap, hv, fun hp => ?_⟩
  obtain ⟨b, off, ha, h1, h3, g, hg, hj⟩ := hc hp
  refine ⟨b, off, ha, h1, by omega, g, fun i hi => ?_, hj⟩
  obtain ⟨g1, g3, g4, g5⟩ := hg i hi
  exact ⟨g1, g3, by omega, g5.kept hs (k b h1 h3) (fun _ => k _ g1 g4)⟩

theorem POwnS.wider {S S' : Nat → Prop} {w : World} {v : Value} {ps : List (Int × List Int)} (h : POwnS S w v ps) (e : ∀ k, S k → k < w.heap.size → S' k) : POwnS S' w v ps := by
  obtain ⟨a, cap, hv, hc⟩ := h
  refine ⟨a, cap, hv, fun hp => ?_⟩
  obtain ⟨b, off, ha, h1, h3, g, hg, hj⟩ := hc hp
  refine ⟨b, off, ha, e _ h1 h3, h3, g, fun i hi => ?_, hj⟩
  obtain ⟨g1, g3, g4, g5⟩ := hg i hi
  exact ⟨e _ g1 g4, g3, g4, g5⟩

theorem POwnS.empty (S : Nat → Prop) (w : World) (a : Option Addr) (cap : Nat) : POwnS S w (.slice a 0 cap) [] := ⟨a, cap, rfl, fun h => by simp at h⟩

theorem POwnS.read {S : Nat → Prop} {w : World} {v : Value} {ps : List (Int × List Int)} (h : POwnS S w v ps) : PRead w v ps := by
  obtain ⟨a, cap, hv, hc⟩ := h
  refine ⟨a, cap, hv, fun hp => ?_⟩
  obtain ⟨b, off, ha, h1, h3, g, hg, hj⟩ := hc hp
  refine ⟨b, off, ha, fun i hi => ?_⟩
  obtain ⟨_, _, _, da, dc, e1, e2, e3, e4⟩ := hg i hi
  exact ⟨da, dc, e1, e2, e4.bts⟩

theorem POwn.toS {lo hi : Nat} {w : World} {v : Value} {ps : List (Int × List Int)} (h : POwn lo hi w v ps) : POwnS (fun k => lo ≤ k ∧ k < hi) w v ps := by
  obtain ⟨a, cap, hv, hc⟩ := h
  refine ⟨a, cap, hv, fun hp => ?_⟩
  obtain ⟨b, off, ha, h1, h2, h3, g, hg, hj⟩ := hc hp
  refine ⟨b, off, ha, ⟨h1, h2⟩, h3, g, fun i hi => ?_, hj⟩
  obtain ⟨g1, g2, g3, g4, g5⟩ := hg i hi
  exact ⟨⟨g1, g2⟩, g3, g4, g5⟩

theorem Frm.of_upd {S : Nat → Prop} {lo hi : Nat} {w w' : World} (h : Upd lo hi w w') (hS : ∀ k, lo ≤ k → k < hi → S k) : Frm S w w' :=
  ⟨h.os, h.tape, h.output, h.size, fun k hk hn => h.block k hk (by
    by_cases h1 : k < lo
    · exact .inl h1
    · by_cases h2 : hi ≤ k
      · exact .inr h2
      · exact absurd (hS k (by omega) (by omega)) hn)⟩

set_option maxHeartbeats 1000000 in
theorem markPendingS_S (S : Nat → Prop) (v : Value) (ps : List (Int × List Int)) (k : Int) (w : World) (hv : POwnS S w v ps) (hk : 0 ≤ k) (hn : k + sumP ps ≤ 9223372036854775806) (hl : ps.length ≤ 281474976710656) :
    Calls Try.prog 34 #[v, .int .i64 k] w fun e w' => e = .returned (.int .i64 (k + sumP ps)) ∧ POwnS S w' v (markP k ps) ∧ Frm S w w' := by
  obtain ⟨a, cap, rfl, hc⟩ := hv
  by_cases hz : 0 < ps.length
  · obtain ⟨b, off, rfl, h1, h3, g, hg, hinj⟩ := hc hz
    have hM : PMid w b off g ps k 0 := fun i hi => by rw [if_neg (Nat.not_lt_zero _)]; exact (hg i hi).2.2.2
    have hgb : ∀ i, i < ps.length → S (g i) ∧ g i ≠ b ∧ g i < w.heap.size := fun i hi => ⟨(hg i hi).1, (hg i hi).2.1, (hg i hi).2.2.1⟩
    clear hc hg
    go_enter Try.func34, Try.ntmps34
    go_wp2
    go_loopw [1, 5] (fun q i wr => ∃ j : Nat, j ≤ ps.length ∧ i = .int .i64 j ∧ q = .int .i64 (k + sumP (ps.take j)) ∧ PMid wr b off g ps k j ∧ Frm S w wr) (fun _ i _ => ps.length - (intOf i).toNat)
    case atStart => exact ⟨0, Nat.zero_le _, rfl, by simp [sumP], hM, Frm.refl _ _⟩
    case round =>
      obtain ⟨j, hj, rfl, rfl, ho, hu⟩ := hrel
      by_cases hlt : j < ps.length
      · have hel := ho j hlt
        rw [if_neg (Nat.lt_irrefl _)] at hel
        obtain ⟨da, dc, e1, e2, e3, e4⟩ := hel
        have hs1 := sumP_take_succ ps j hlt
        have hs2 := sumP_take_le ps (j + 1)
        have hs0 := sumP_nonneg (ps.take j)
        have hgj := hgb j hlt
        have hsz := hu.size
        have HST := fun w1 => PMid.step (w1 := w1) ho hlt (fun i hi => ⟨(hgb i hi).2.1, by have := (hgb i hi).2.2; omega⟩) (by omega) hinj e2
        have HS1 : Hid (sumP (ps.take (j + 1)) = sumP (ps.take j) + 1 + (ps.getD j (0, [])).2.length) := hs1
        have hbd : k + sumP (ps.take j) + 1 + (ps.getD j (0, [])).2.length ≤ 9223372036854775806 := by omega
        have e5 : Own8 (g j) (g j + 1) (wr.setCell ⟨b, off + j * 2, none⟩ (.int .i64 (k + sumP (ps.take j)))) (.slice da (ps.getD j (0, [])).2.length dc) (ps.getD j (0, [])).2 :=
          e4.kept (by simp) fun q q1 q2 q3 => Below.heap_setCell _ _ _ _ (by have := hgj.2.1; simp; omega)
        have hu1 : Frm S w (wr.setCell ⟨b, off + j * 2, none⟩ (.int .i64 (k + sumP (ps.take j)))) := hu.setCell h1 _
        have hgS := hgj.1
        have HSTH := fun w1 => (show Hid _ from HST w1)
        clear hs1 hs2 ho HST hgj
        generalize hS : sumP (ps.take j) = Z at *
        generalize hp : ps.getD j (0, []) = p at *
        obtain ⟨q, zs⟩ := p
        have HS : Hid (sumP (ps.take j) = Z) := hS
        have HP : Hid (ps.getD j (0, []) = (q, zs)) := hp
        clear hS hp
        simp only at e1 e2 e4 e5 hbd
        go_wp2_with fail
        refine (markByteS_any (g j) (g j + 1) _ zs _ _ e5 (by omega) (by omega)).mono ?_
        rintro e w1 ⟨rfl, ho1, hv1⟩
        have hst := (HSTH w1).out hv1 ho1
        have hu2 : Frm S w w1 := hu1.trans (Frm.of_upd hv1 (fun x x1 x2 => by
          obtain rfl : x = g j := by omega
          exact hgS))
        clear HSTH ho1 hv1 hu1 e5 e4 hgS
        go_wp2
        go_roundw
        case rel => exact ⟨j + 1, by omega, by go_num, by rw [HS1.out]; simp only [Value.int.injEq, true_and]; omega, hst, hu2⟩
        case measure => simp [intOf]; omega
      · have hje : ps.length = j := by omega
        have HF : Hid (sumP (ps.take j) = sumP ps) := by rw [← hje, List.take_length]; rfl
        have hP : POwnS S wr (.slice (some ⟨b, off, none⟩) ps.length cap) (markP k ps) := by
          refine ⟨_, cap, by rw [markP_length], fun _ => ⟨b, off, rfl, h1, by have := hu.size; omega, g, fun i hi => ?_, fun i j hi hj => ?_⟩⟩
          · rw [markP_length] at hi
            have h5 := ho i hi
            rw [if_pos (by omega)] at h5
            have h6 := hgb i hi
            exact ⟨h6.1, h6.2.1, by have := hu.size; omega, h5⟩
          · rw [markP_length] at hi hj
            exact hinj i j hi hj
        clear hje ho
        go_wp2
        go_ret
        exact ⟨by rw [HF.out]; rfl, hP, hu⟩
  · have hz0 : ps = [] := List.eq_nil_of_length_eq_zero (by omega)
    subst hz0
    clear hc
    go_enter Try.func34, Try.ntmps34
    go_wp2
    go_loopw [1, 5] (fun q i wr => i = .int .i64 0 ∧ q = .int .i64 k ∧ w = wr) (fun _ _ _ => 0)
    case atStart => exact ⟨rfl, rfl, rfl⟩
    case round =>
      obtain ⟨rfl, rfl, rfl⟩ := hrel
      go_wp2
      go_ret
      exact ⟨by simp [sumP], POwnS.empty _ _ _ _, Frm.refl _ _⟩

/-- as DOwn: disk and cache in blocks from lo up to hi, apart, but in any order -/
def DOwnX (lo hi : Nat) (w : World) (v : Value) (B : Int) (zs : List Int) (ps : List (Int × List Int)) : Prop :=
  ∃ da dc ca cc l1 h1, v = .agg #[.int .i64 B, .slice da zs.length dc, .slice ca ps.length cc] ∧ lo ≤ l1 ∧ h1 ≤ hi ∧ Own8 l1 h1 w (.slice da zs.length dc) zs ∧ POwnS (fun k => lo ≤ k ∧ k < hi ∧ ¬ (l1 ≤ k ∧ k < h1)) w (.slice ca ps.length cc) ps

theorem DOwnX.read {lo hi : Nat} {w : World} {v : Value} {B : Int} {zs : List Int} {ps : List (Int × List Int)} (h : DOwnX lo hi w v B zs ps) : DRead w v B zs ps := by
  obtain ⟨da, dc, ca, cc, _, _, hv, _, _, h1, h2⟩ := h
  exact ⟨da, dc, ca, cc, hv, h1.bts, h2.read⟩

theorem DOwnX.below {lo hi : Nat} {w w' : World} {v : Value} {B : Int} {zs : List Int} {ps : List (Int × List Int)} (h : DOwnX lo hi w v B zs ps) (k : Below w.heap.size w w') : DOwnX lo hi w' v B zs ps := by
  obtain ⟨da, dc, ca, cc, l1, h1, hv, q1, q2, k1, k2⟩ := h
  exact ⟨da, dc, ca, cc, l1, h1, hv, q1, q2, k1.below k, k2.kept k.size (fun b _ hb => k.block b hb)⟩

theorem DOwnX.upd {lo hi lo' hi' : Nat} {w w' : World} {v : Value} {B : Int} {zs : List Int} {ps : List (Int × List Int)} (h : DOwnX lo hi w v B zs ps) (k : Upd lo' hi' w w') (hd : hi ≤ lo' ∨ hi' ≤ lo) : DOwnX lo hi w' v B zs ps := by
  obtain ⟨da, dc, ca, cc, l1, h1, hv, q1, q2, k1, k2⟩ := h
  exact ⟨da, dc, ca, cc, l1, h1, hv, q1, q2, k1.upd k (by omega), k2.kept k.size (fun b hb hl => k.block b hl (by omega))⟩

theorem DOwn.toX {lo hi : Nat} {w : World} {v : Value} {B : Int} {zs : List Int} {ps : List (Int × List Int)} (h : DOwn lo hi w v B zs ps) : DOwnX lo hi w v B zs ps := by
  obtain ⟨da, dc, ca, cc, l1, h1, l2, h2, hv, q1, q2, q3, q4, q5, k1, k2⟩ := h
  exact ⟨da, dc, ca, cc, l1, h1, hv, q1, q2, k1, k2.toS.wider (fun k hk _ => by omega)⟩

set_option maxHeartbeats 400000 in
theorem markDevice_X (lo hi : Nat) (B : Int) (v : Value) (zs : List Int) (ps : List (Int × List Int)) (k : Int) (w : World) (h : DOwnX lo hi w v B zs ps) (hhi : hi ≤ w.heap.size) (hk : 0 ≤ k) (hn : k + zs.length + sumP ps ≤ 9223372036854775806) (hl : ps.length ≤ 281474976710656) :
    Calls Try.prog 15 #[v, .int .i64 k] w fun e w' => e = .returned (.int .i64 (k + zs.length + sumP ps)) ∧ DOwnX lo hi w' v B (marks k zs.length) (markP (k + zs.length) ps) ∧ Upd lo hi w w' := by
  obtain ⟨da, dc, ca, cc, l1, h1, rfl, q1, q2, k1, k2⟩ := h
  have hs0 := sumP_nonneg ps
  have hb0 : Below w.heap.size w (w.alloc (.cells #[.int .i64 B, .slice da zs.length dc, .slice ca ps.length cc] 25)) := (Below.refl _ _).alloc (Nat.le_refl _) _
  have e1 := k1.below hb0
  have e2 := k2.kept hb0.size (fun b _ hb => hb0.block b hb)
  go_enter Try.func15, Try.ntmps15
  go_wp2_with fail
  refine (markByteS_any l1 h1 _ zs _ _ e1 hk (by omega)).mono ?_
  rintro e w1 ⟨rfl, o1, u1⟩
  have e3 := e2.kept u1.size (fun b hb hl => u1.block b hl (by omega))
  have c1 : w1.cell? ⟨w.heap.size, 2, none⟩ = some (.slice ca ps.length cc) := by
    rw [World.cell?_of_block (w := w.alloc (.cells #[.int .i64 B, .slice da zs.length dc, .slice ca ps.length cc] 25)) (a := ⟨w.heap.size, 2, none⟩) (u1.block w.heap.size (by simp) (by omega))]
    exact World.cell?_alloc_at _ _ _ _ rfl
  go_wp2_with fail
  refine (markPendingS_S _ _ ps _ _ e3 (by omega) (by omega) hl).mono ?_
  rintro e w2 ⟨rfl, o2, u2⟩
  have o3 := o1.kept u2.size (fun b b1 b2 b3 => u2.block b b3 (by omega))
  have u2' : Upd lo hi w1 w2 := ⟨u2.os, u2.tape, u2.output, u2.size, fun k hk hn => u2.block k hk (by omega)⟩
  have u3 : Upd lo hi w w2 := ((Upd.of_below lo hi hb0).trans (u1.wider q1 q2)).trans u2'
  clear u1 u2 o1 e3 c1 e1 e2 k1 k2 u2'
  go_wp2
  go_ret
  exact ⟨rfl, ⟨da, dc, ca, cc, l1, h1, by rw [marks_length, markP_length], q1, q2, by rw [marks_length]; exact o3, by rw [markP_length]; exact o2⟩, u3⟩
end Go.Proofs.Ytbadedhliplkeaa
