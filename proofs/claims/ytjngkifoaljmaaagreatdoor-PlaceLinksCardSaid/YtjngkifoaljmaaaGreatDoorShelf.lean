/- Nothing of the shelf is laid here. -/
import Derived.Test.YtjngkifoaljmaaaGreatDoorProg
namespace Go.Proofs
end Go.Proofs
