/- slices.Concat of two slices of spans, of two of matches. -/
import Derived.Test.YtafbjadlklcicaaMaMem
namespace Go.Proofs.Ytafbjadlklcicaa
open Go.RowKit
set_option maxRecDepth 100000

end Go.Proofs.Ytafbjadlklcicaa
