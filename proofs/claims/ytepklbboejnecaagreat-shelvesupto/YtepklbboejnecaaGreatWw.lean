/- The document's own answer: all ends; how far two texts agree; Parts. -/
import Derived.Test.YtepklbboejnecaaGreatWv
namespace Go.Proofs.YtepklbboejnecaaGreat
open Go.RowKit Go.Shelf Sedge
attribute [local go_sem ↓] Go.wp_at_zero Go.wp_at_succ

end Go.Proofs.YtepklbboejnecaaGreat
