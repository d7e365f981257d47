import Derived.Test.YtanebeebphaolaaOpenDev
import Derived.Test.YtanebeebphaolaaLawFlush
namespace Go.Proofs.Ytanebeebphaolaa
end Go.Proofs.Ytanebeebphaolaa
