/- The model's l01Max and l01Min. -/
import Derived.Test.YtfjmcmdkmecgiaaProg
import Derived.Test.YtfjmcmdkmecgiaaBase
namespace Go.Proofs.Ytfjmcmdkmecgiaa
open Go.RowKit

end Go.Proofs.Ytfjmcmdkmecgiaa
