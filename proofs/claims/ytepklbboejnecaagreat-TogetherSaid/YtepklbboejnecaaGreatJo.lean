/- Together. -/
import Derived.Test.YtepklbboejnecaaGreatJm
import Derived.Test.YtepklbboejnecaaGreatJn
namespace Go.Proofs.YtepklbboejnecaaGreat
open Go.RowKit Go.Shelf Sedge
theorem together_any (ad : Option Addr) (texts : List ByteArray) (c : Nat) (pat : ByteArray) (n : Int) (w : World) (hS : SS w ad texts) (hn1 : -9223372036854775808 ≤ n) (hn2 : n ≤ 9223372036854775807) (hlen : texts.length ≤ 9223372036854775807) :
    Calls Tryz.prog 4 #[.slice ad texts.length c, .string pat, .int .i64 n] w fun e w' => e = .returned (.bool true) ∧ Below w.heap.size w w' := by
  by_cases h : texts.length ≤ 6
  · exact together_le ad texts c pat n w hS hn1 hn2 h hlen
  · exact together_gt ad texts c pat n w hS hn1 hn2 (by omega) hlen
end Go.Proofs.YtepklbboejnecaaGreat
