/- The walk of prod.columns: the product of any two numbers. -/
import Derived.Test.YtgacafdkhailmaaDoorPBits
namespace Go.Proofs.YtgacafdkhailmaaDoor
open Go.RowKit


end Go.Proofs.YtgacafdkhailmaaDoor
