import Derived.Test.YtanebeebphaolaaOpenDev
import Derived.Test.YtanebeebphaolaaLawWrite
namespace Go.Proofs.Ytanebeebphaolaa
open Go.RowKit

theorem devWrite_all (q : Int) (ks : List Int) (ka : Option Addr) (kc : Nat) (B : Int) (va vb : Option Addr) (vc vd : Nat) (zs : List Int) (ps : List (Int × List Int)) (w : World) (hv : DRead w (.agg #[.int .i64 B, .slice va zs.length vc, .slice vb ps.length vd]) B zs ps) (hzb : zs.length ≤ 9223372036854775807) (hpb : PBound ps) (hkv : Bts w (.slice ka ks.length kc) ks) (hkl : ks.length ≤ 9223372036854775807) :
    Calls Try.prog 8 #[.agg #[.int .i64 B, .slice va zs.length vc, .slice vb ps.length vd], .int .i64 q, .slice ka ks.length kc] w fun e w' => e = .returned (.bool true) ∧ Below w.heap.size w w' := by
  by_cases h : ks.length ≤ 1048576
  · exact devWrite_walk q ks ka kc B va vb vc vd zs ps w hv hzb hpb hkv h
  · have hb0 := belowA w (.cells #[.int .i64 B, .slice va zs.length vc, .slice vb ps.length vd] 50)
    go_enter Try.func8, Try.ntmps8
    go_wp2
    go_ret
    exact ⟨rfl, hb0⟩
end Go.Proofs.Ytanebeebphaolaa
