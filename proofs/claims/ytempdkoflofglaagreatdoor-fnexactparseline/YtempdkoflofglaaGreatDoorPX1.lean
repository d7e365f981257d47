import Derived.Test.YtempdkoflofglaaGreatDoorPI
namespace Go.Proofs.YtempdkoflofglaaGreatDoor
open Go.RowKit
set_option linter.unusedVariables false

/-- the operation and the letters of a word -/
def wdL (l : List UInt8) : Int × ByteArray :=
  if (l == [99, 114, 101, 97, 116, 101]) = true then (1, { data := #[84, 80] }) else
  if (l == [109, 107, 100, 105, 114]) = true then (2, { data := #[84, 80] }) else
  if (l == [119, 114, 105, 116, 101]) = true then (3, { data := #[84, 80, 79, 68] }) else
  if (l == [102, 105, 108, 108]) = true then (4, { data := #[84, 80, 79, 76, 67] }) else
  if (l == [114, 101, 97, 100]) = true then (5, { data := #[84, 80, 79, 76] }) else
  if (l == [108, 105, 115, 116]) = true then (6, { data := #[84, 80] }) else
  if (l == [117, 110, 108, 105, 110, 107]) = true then (7, { data := #[84, 80] }) else
  if (l == [114, 101, 110, 97, 109, 101]) = true then (8, { data := #[84, 80, 81] }) else
  if (l == [99, 108, 111, 110, 101]) = true then (9, { data := #[84] }) else
  if (l == [100, 114, 111, 112]) = true then (10, { data := #[84] }) else
  if (l == [115, 121, 110, 99]) = true then (11, { data := #[] }) else
  if (l == [115, 112, 97, 99, 101]) = true then (12, { data := #[] }) else
  if (l == [99, 114, 97, 115, 104]) = true then (13, { data := #[79, 77] }) else
  (0, { data := #[] })
/-- the letters of kinds -/
def lets (ks : List Int) : ByteArray := ⟨(ks.map fun k => (#[84, 80, 81, 79, 76, 67, 68, 77] : Array UInt8).getD k.toNat 0).toArray⟩
/-- the same by the table of verbs -/
def wdT (s : ByteArray) : Int × ByteArray := match TBL.find? (fun t => decide (t.1 = s)) with | none => (0, eT) | some t => (t.2.1, lets t.2.2)

theorem tl_iff (s : ByteArray) (l : List UInt8) : ((s.toList == l) = true) = (s = ⟨l.toArray⟩) := by
  rw [beq_iff_eq, ByteArray.toList_eq]
  refine propext ⟨fun h => ?_, fun h => by rw [h]⟩
  obtain ⟨⟨d⟩⟩ := s
  simp only at h; subst h; rfl

set_option maxRecDepth 100000 in
set_option maxHeartbeats 2000000 in
theorem wd_tbl (s : ByteArray) : wdL s.toList = wdT s := by
  have h1 : wdL s.toList =
    if s = { data := #[99, 114, 101, 97, 116, 101] } then (1, { data := #[84, 80] }) else
    if s = { data := #[109, 107, 100, 105, 114] } then (2, { data := #[84, 80] }) else
    if s = { data := #[119, 114, 105, 116, 101] } then (3, { data := #[84, 80, 79, 68] }) else
    if s = { data := #[102, 105, 108, 108] } then (4, { data := #[84, 80, 79, 76, 67] }) else
    if s = { data := #[114, 101, 97, 100] } then (5, { data := #[84, 80, 79, 76] }) else
    if s = { data := #[108, 105, 115, 116] } then (6, { data := #[84, 80] }) else
    if s = { data := #[117, 110, 108, 105, 110, 107] } then (7, { data := #[84, 80] }) else
    if s = { data := #[114, 101, 110, 97, 109, 101] } then (8, { data := #[84, 80, 81] }) else
    if s = { data := #[99, 108, 111, 110, 101] } then (9, { data := #[84] }) else
    if s = { data := #[100, 114, 111, 112] } then (10, { data := #[84] }) else
    if s = { data := #[115, 121, 110, 99] } then (11, { data := #[] }) else
    if s = { data := #[115, 112, 97, 99, 101] } then (12, { data := #[] }) else
    if s = { data := #[99, 114, 97, 115, 104] } then (13, { data := #[79, 77] }) else
    (0, { data := #[] }) := by simp only [wdL, tl_iff]
  rw [h1, wdT]
  by_cases hm : ∃ t ∈ TBL, t.1 = s
  · obtain ⟨t, ht, rfl⟩ := hm
    clear h1
    revert t
    decide
  · have hn : TBL.find? (fun t => decide (t.1 = s)) = none := List.find?_eq_none.2 fun t ht h => hm ⟨t, ht, of_decide_eq_true h⟩
    rw [hn]
    have hq : ∀ t ∈ TBL, ¬ s = t.1 := fun t ht e => hm ⟨t, ht, e.symm⟩
    simp only [TBL, List.forall_mem_cons] at hq
    simp [hq, eT]

set_option maxRecDepth 100000 in
set_option maxHeartbeats 8000000 in
theorem l6Word_any (s : ByteArray) (w : World) :
    Calls Tryz.prog 8 #[.string s] w fun e w' => e = .returned (.tuple #[.int .i64 (wdT s).1, .string (wdT s).2]) ∧ w' = w := by
  rw [← wd_tbl]
  go_enter Tryz.func8, Tryz.ntmps8
  go_wp2_with fail
  all_goals exact bodyPost_ret (v := .tuple #[.int .i64 (wdL s.toList).1, .string (wdL s.toList).2]) (by simp [results, Tryz.results8, go_sem, wdL, *]) rfl ⟨rfl, rfl⟩

end Go.Proofs.YtempdkoflofglaaGreatDoor
