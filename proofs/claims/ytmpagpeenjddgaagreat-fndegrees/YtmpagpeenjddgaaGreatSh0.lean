import Derived.Test.YtmpagpeenjddgaaGreatRows
import Derived.WalkKit
import Derived.Below
namespace Go.Proofs.YtmpagpeenjddgaaGreat
open Go.RowKit
theorem eZ {α : Type} (a : α) : ∃ x, a = x := ⟨a, rfl⟩
theorem sB {α : Type} (l : List α) (i : Nat) (a : α) : l.toArray.setIfInBounds i a = (l.set i a).toArray := List.setIfInBounds_toArray ..
theorem sZ {α : Type} (a b : α) (l : List α) : (a :: l).set 0 b = b :: l := rfl
theorem sS {α : Type} (a b : α) (l : List α) (n : Nat) : (a :: l).set (n + 1) b = a :: l.set n b := rfl
theorem gD {α : Type} {l : List α} {i : Nat} {a : α} : l.getD i a = l[i]?.getD a := List.getD_eq_getElem?_getD
theorem exH {α : Type} (a : α) : ∃ x, Hid (x = a) := ⟨a, rfl⟩
abbrev iV(x:Int):Value:=.int .i64 x
abbrev aD(g i:Nat):Addr:=⟨g,i,none⟩
abbrev pT(g i:Nat):Value:=.pointer (some ⟨g,i,none⟩)
abbrev sL(g i:Nat):Nat->Nat->Value:=.slice (some ⟨g,i,none⟩)
abbrev OB := Option ByteArray
abbrev Bl (w w' : World) : Prop := Below w.heap.size w w'
theorem nR (n : Nat) : n <= n := Nat.le_refl n
theorem bQ (B : Nat) (w : World) : Below B w w := Below.refl B w
theorem aI {a b : Prop} (h : a) (k : b) : a /\ b := ⟨h, k⟩
theorem lL {a b c : Nat} (h : a < b) (k : b <= c) : a < c := Nat.lt_of_lt_of_le h k
theorem lT {a b c : Nat} (h : a <= b) (k : b <= c) : a <= c := Nat.le_trans h k
theorem gE {α : Type} {l : List α} {i : Nat} (h : i < l.length) : l[i]? = some l[i] := List.getElem?_eq_getElem h
theorem lP {α : Type} {l k : List α} : (l ++ k).length = l.length + k.length := List.length_append
theorem sJ {α : Type} (a b : α) : (some a = some b) = (a = b) := Option.some.injEq a b
theorem eS {α : Type} {l : Array α} {i : Nat} {a : α} : l[i]? = some a ↔ ∃ h : i < l.size, l[i] = a := Array.getElem?_eq_some_iff
theorem iA {α : Type} {l : List α} {i : Nat} : l.toArray[i]? = l[i]? := List.getElem?_toArray
theorem iB {α : Type} {a : α} {l : List α} : (a :: l)[0]? = some a := List.getElem?_cons_zero
theorem iC {α : Type} {a : α} {l : List α} {i : Nat} : (a :: l)[i + 1]? = l[i]? := List.getElem?_cons_succ
theorem bAl {w w1 : World} {o : Obj} (h : w.alloc o = w1) : Bl w w1 := by rw [<- h]; exact (Below.refl _ w).alloc (Nat.le_refl _) _
end Go.Proofs.YtmpagpeenjddgaaGreat
