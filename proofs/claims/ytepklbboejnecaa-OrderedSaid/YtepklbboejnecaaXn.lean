/- Thirds: what never takes two for alike. -/
import Derived.Test.YtepklbboejnecaaXh
import Derived.Test.YtepklbboejnecaaM
namespace Go.Proofs.Ytepklbboejnecaa
open Go.RowKit Go.Shelf Sedge
attribute [local go_sem ↓] Go.wp_at_zero Go.wp_at_succ

theorem tells_never : Tells2 88 #[] #[] (fun _ => True) (fun _ _ => True) (fun _ _ => false) where
  enter := enters_of Try.func88 (by kernel_rfl) rfl
  keep _ _ _ _ := trivial
  run p q w _ _ := by
    go_enter Try.func88, Try.ntmps88
    go_wp2
    go_ret
    exact ⟨rfl, Below.refl _ _⟩
end Go.Proofs.Ytepklbboejnecaa
