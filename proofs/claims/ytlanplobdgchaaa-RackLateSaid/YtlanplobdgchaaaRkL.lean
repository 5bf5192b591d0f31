/- Package rack as it landed: all contracts of the calls. -/
import Derived.Test.YtlanplobdgchaaaRkL4
import Derived.Test.YtlanplobdgchaaaRkL5
import Derived.Test.YtlanplobdgchaaaRkRef3
namespace Go.Proofs.Ytlanplobdgchaaa
end Go.Proofs.Ytlanplobdgchaaa
