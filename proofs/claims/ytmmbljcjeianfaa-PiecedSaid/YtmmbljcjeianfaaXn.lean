/- Thirds: what never takes two for alike. -/
import Derived.Test.YtmmbljcjeianfaaXh
import Derived.Test.YtmmbljcjeianfaaM
namespace Go.Proofs.Ytmmbljcjeianfaa
open Go.RowKit Go.Shelf Sedge
attribute [local go_sem ↓] Go.wp_at_zero Go.wp_at_succ

theorem tells_never : Tells2 87 #[] #[] (fun _ => True) (fun _ _ => True) (fun _ _ => false) where
  enter := enters_of Try.func87 (by kernel_rfl) rfl
  keep _ _ _ _ := trivial
  run p q w _ _ := by
    go_enter Try.func87, Try.ntmps87
    go_wp2
    go_ret
    exact ⟨rfl, Below.refl _ _⟩
end Go.Proofs.Ytmmbljcjeianfaa
