import Derived.Test.YtlfmfhmbkpnjbaaSeenc
import Derived.Test.YtlfmfhmbkpnjbaaAxis
import Derived.Test.YtlfmfhmbkpnjbaaEqp
namespace Go.Proofs.Ytlfmfhmbkpnjbaa
open Go.RowKit

end Go.Proofs.Ytlfmfhmbkpnjbaa
