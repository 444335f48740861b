/- Parts: the n-th of them. -/
import Derived.Test.YtepklbboejnecaaGreatWs
namespace Go.Proofs.YtepklbboejnecaaGreat
open Go.RowKit Go.Shelf Sedge
attribute [local go_sem ↓] Go.wp_at_zero Go.wp_at_succ

/-- The end, by its number in order, that brings the n-th part. -/
def pidx (l o : List Nat) (n : Nat) : Option Nat := (List.range o.length).find? fun k => decide (n < many l o (k + 1))
theorem pidx_some {l o : List Nat} {n k : Nat} (hk : k < o.length) (h : n < many l o (k + 1)) (hj : ∀ j, j < k → ¬ n < many l o (j + 1)) : pidx l o n = some k := by
  unfold pidx; rw [List.find?_range_eq_some]
  exact ⟨by simpa using h, List.mem_range.2 hk, fun j hjk => by simpa using hj j hjk⟩
theorem pidx_none {l o : List Nat} {n : Nat} (h : ∀ j, j < o.length → ¬ n < many l o (j + 1)) : pidx l o n = none := by
  unfold pidx; rw [List.find?_eq_none]
  intro k hk; simpa using h k (List.mem_range.1 hk)
/-- The n-th part. -/
def ptext (s : ByteArray) (o : List Nat) (n : Nat) : ByteArray :=
  match pidx (bl s) o n with
  | some k => s.extract (num o k) (num o k + cm (bl s) o k + (n - many (bl s) o k) + 1)
  | none => ⟨#[]⟩
theorem ptext_some {s : ByteArray} {o : List Nat} {n k : Nat} (h : pidx (bl s) o n = some k) : ptext s o n = s.extract (num o k) (num o k + cm (bl s) o k + (n - many (bl s) o k) + 1) := by unfold ptext; rw [h]
theorem ptext_none {s : ByteArray} {o : List Nat} {n : Nat} (h : pidx (bl s) o n = none) : ptext s o n = ⟨#[]⟩ := by unfold ptext; rw [h]

end Go.Proofs.YtepklbboejnecaaGreat
