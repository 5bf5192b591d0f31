/- Package sent as it landed: the contracts of the calls that package rack wants. -/
import Derived.Test.YtlanplobdgchaaaStL3
namespace Go.Proofs.Ytlanplobdgchaaa
end Go.Proofs.Ytlanplobdgchaaa
