/- The walk of prod.columns: the product of any two numbers. -/
import Derived.Test.YtjdlnfmeciodnaaDoorPBits
namespace Go.Proofs.YtjdlnfmeciodnaaDoor
open Go.RowKit


end Go.Proofs.YtjdlnfmeciodnaaDoor
