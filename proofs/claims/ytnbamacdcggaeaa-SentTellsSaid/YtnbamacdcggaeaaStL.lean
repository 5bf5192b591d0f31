/- Package sent as it landed: all contracts of the calls. -/
import Derived.Test.YtnbamacdcggaeaaStL10
namespace Go.Proofs.Ytnbamacdcggaeaa
end Go.Proofs.Ytnbamacdcggaeaa
