/- The walk of prod.columns: the product of any two numbers. -/
import Derived.Test.YtgkjlfhflndddaaDoorPBits
namespace Go.Proofs.YtgkjlfhflndddaaDoor
open Go.RowKit


end Go.Proofs.YtgkjlfhflndddaaDoor
