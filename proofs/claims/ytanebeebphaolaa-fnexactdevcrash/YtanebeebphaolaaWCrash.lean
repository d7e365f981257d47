import Derived.Test.YtanebeebphaolaaOpenDev
import Derived.Test.YtanebeebphaolaaLawCrash
namespace Go.Proofs.Ytanebeebphaolaa
open Go.RowKit

theorem devCrash_all (ks : List Int) (ka : Option Addr) (kc : Nat) (B : Int) (va vb : Option Addr) (vc vd : Nat) (zs : List Int) (ps : List (Int × List Int)) (w : World) (hv : DRead w (.agg #[.int .i64 B, .slice va zs.length vc, .slice vb ps.length vd]) B zs ps) (hzb : zs.length ≤ 9223372036854775807) (hpb : PBound ps) (hkv : Bts w (.slice ka ks.length kc) ks) (hkl : ks.length ≤ 9223372036854775807) :
    Calls Try.prog 7 #[.agg #[.int .i64 B, .slice va zs.length vc, .slice vb ps.length vd], .slice ka ks.length kc] w fun e w' => e = .returned (.bool true) ∧ Below w.heap.size w w' := by
  by_cases h : ks.length ≤ 1048576
  · exact devCrash_walk ks ka kc B va vb vc vd zs ps w hv hzb hpb hkv h
  · have hb0 := belowA w (.cells #[.int .i64 B, .slice va zs.length vc, .slice vb ps.length vd] 50)
    go_enter Try.func7, Try.ntmps7
    go_wp2
    go_ret
    exact ⟨rfl, hb0⟩
end Go.Proofs.Ytanebeebphaolaa
