import Derived.Test.YtbadedhliplkeaaDw1
import Derived.Test.YtbadedhliplkeaaOpenZ
namespace Go.Proofs.Ytbadedhliplkeaa
open Go.RowKit
set_option linter.unusedVariables false

set_option maxRecDepth 100000 in
set_option maxHeartbeats 1000000 in
theorem reads_law (a0 a1 : Option Addr) (c0 c1 : Nat) (zs ms : List Int) (w : World) (hv : Bts w (.slice a0 zs.length c0) zs) (hvm : Bts w (.slice a1 ms.length c1) ms) (hz : zs.length ≤ 9223372036854775807) (hm : ms.length ≤ 9223372036854775807) :
    Calls Try.prog 4 #[.slice a0 zs.length c0, .slice a1 ms.length c1] w fun e w' => e = .returned (.bool true) ∧ Below w.heap.size w w' := by
  by_cases h1 : zs.length ≤ 1048576
  · by_cases h2 : ms.length ≤ 1048576
    · have hs := ddR_size zs (0, bgN zs zs.length)
      exact reads_all a0 a1 c0 c1 zs ms (dwR zs).1.1 (dwR zs).1.2.1 (dwR zs).1.2.2 (dwQ zs) (dwD zs) w hv hvm h1 h2 rfl rfl rfl hs.2.1 hs.2.2.1 hs.2.2.2 (dwD_length zs)
    · have h2' : (1048576 : Int) < (ms.length : Int) := by omega
      have h1' : ¬ (1048576 : Int) < (zs.length : Int) := by omega
      clear hv hvm
      go_enter Try.func4, Try.ntmps4
      go_wp2_with fail
      go_ret
      exact ⟨rfl, Below.refl _ _⟩
  · have h1' : (1048576 : Int) < (zs.length : Int) := by omega
    clear hv hvm
    go_enter Try.func4, Try.ntmps4
    go_wp2_with fail
    go_ret
    exact ⟨rfl, Below.refl _ _⟩

end Go.Proofs.Ytbadedhliplkeaa
namespace Go.Proofs.Ytbadedhliplkeaa.fnDeviceReads
open Go.ChangeShapes Go.WideShapes Go.ChangeAt Go.RowKit

set_option maxRecDepth 100000 in
theorem lifted (os : Os) (started : os.Started) (H : Type) (enc : TypeId × Value → H) :
    ReturnsInHanded {} Try.checked os 4 .any (Rows.fnDeviceReadsSpec.pre6 enc Try.prog Try.f4 Rows.fnDeviceReadsRow.domain false) (Rows.fnDeviceReadsSpec.post enc Try.prog Try.f4 false true false false) := by
  refine returnsInHanded_of_change (C := Try.checked) own started (by kernel_rfl) Try.func4
    (ChangeSpec.witness6 (enc := enc) (C := Try.checked) false ⟨#[], #[.slice none 0 0, .slice none 0 0], []⟩ 8 (by kernel_rfl) (by kernel_rfl) (by kernel_rfl) (by kernel_rfl)) ?_
  intro W base args ds gs before hval0 hW hcnd _
  have hval : ∀ (j : Nat) t v, Try.f4.params[j]? = some t → args[j]? = some v → Value.okWide Try.prog W .any base t v := hval0
  have hW' := hW
  obtain ⟨p, q, hA0, hV, rfl, hfz, hnd⟩ := hW
  have hA : DataW.TrodAll enc Try.prog W 0 (fun _ => true) true Try.f4.params.toList args.toList ds p := hA0
  rw [Try.params4] at hA hval
  obtain ⟨v0, vs0, d0, ds0, p0, q0, hargs, rfl, rfl, h0, r0⟩ := trodAll_cons hA
  obtain ⟨v1, vs1, d1, ds1, p1, q1, rfl, rfl, rfl, h1, r1⟩ := trodAll_cons r0
  obtain ⟨rfl, rfl, rfl⟩ := trodAll_nil r1
  obtain rfl : args = #[v0, v1] := by cases args; simp_all
  obtain ⟨rfl, rfl⟩ := trodVars_none hV
  have k0 := h0
  have lt0 : ∀ x ∈ p0, x.block < W.heap.size := by obtain ⟨m, hm⟩ := k0; exact DataW.trod_lt m _ _ _ hm
  obtain ⟨a0, n0, z0, rfl, hn0, hb0⟩ := bytes_arg (hval 0 22 v0 rfl rfl) h0
  have k1 := h1
  have lt1 : ∀ x ∈ p1, x.block < W.heap.size := by obtain ⟨m, hm⟩ := k1; exact DataW.trod_lt m _ _ _ hm
  obtain ⟨a1, n1, z1, rfl, hn1, hb1⟩ := bytes_arg (hval 1 22 v1 rfl rfl) h1
  clear hA0 hval0
  refine (reads_law a0 a1 n0 n1 z0 z1 W hb0 hb1 (by omega) (by omega)).mono fun e W' ⟨he, bel⟩ => ?_
  subst he
  exact ⟨_, rfl, _, _, _, [], _, [], hW', trodAll_mk1 (shut_bool Try.underlying4 _), (trodAll_cons_mk (Below.trod laidOut (by kernel_rfl) (of_decide_eq_true (by kernel_rfl)) k0 bel lt0) (trodAll_cons_mk (Below.trod laidOut (by kernel_rfl) (of_decide_eq_true (by kernel_rfl)) k1 bel lt1) trodAll_mk0)), rfl, bel.frame _, fun h => by cases h⟩

theorem over : Rows.fnDeviceReadsRow.holds Try.pinned (OpenSpec.ofChange Rows.fnDeviceReadsSpec) :=
  OpenClaim.holds_of_wide 4 Try.f4 rfl rfl rfl rfl rfl rfl rfl ⟨rfl, rfl, rfl, rfl, rfl⟩ rfl rfl rfl rfl rfl (by kernel_rfl) Try.func4 (by kernel_rfl)
    (of_decide_eq_true (by kernel_rfl)) (by unfold Func.isWrapper; first | (rw [if_pos (by decide +kernel)]; kernel_rfl) | (rw [if_neg (by decide +kernel)]; exact ⟨rfl, rfl⟩))
    (fun os started H enc _ => lifted os started H enc)

theorem proved : Rows.FnDeviceReadsSaid := over
end Go.Proofs.Ytbadedhliplkeaa.fnDeviceReads
