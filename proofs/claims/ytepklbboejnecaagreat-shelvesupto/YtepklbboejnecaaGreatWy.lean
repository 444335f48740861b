/- The document's own answer: Part. -/
import Derived.Test.YtepklbboejnecaaGreatWx
namespace Go.Proofs.YtepklbboejnecaaGreat
open Go.RowKit Go.Shelf Sedge
attribute [local go_sem ↓] Go.wp_at_zero Go.wp_at_succ

end Go.Proofs.YtepklbboejnecaaGreat
