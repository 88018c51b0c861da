/- Nothing of the shelf is laid here. -/
import Derived.Test.YtjngkifoaljmaaaDoorProg
namespace Go.Proofs
end Go.Proofs
