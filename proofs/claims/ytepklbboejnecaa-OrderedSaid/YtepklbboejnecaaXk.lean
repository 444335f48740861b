/- The document's own Sort; Common's error. -/
import Derived.Test.YtepklbboejnecaaXj
namespace Go.Proofs.Ytepklbboejnecaa
open Go.RowKit Go.Shelf Sedge
attribute [local go_sem ↓] Go.wp_at_zero Go.wp_at_succ

set_option maxHeartbeats 1000000 in
theorem refSort_way (s : ByteArray) (n : Int) (w : World) (h : n < 0 ∨ 3 ≤ n) : Calls Try.prog 37 #[.string s, .int .i64 n] w fun e w' => e = .returned (.tuple #[.slice none 0 0, .int .i64 1]) ∧ Below w.heap.size w w' := by
  rcases h with h | h
  · go_enter Try.func37, Try.ntmps37
    go_wp2
    go_ret2
    exact ⟨rfl, Below.refl _ _⟩
  · have h' : ¬ n < 0 := by omega
    have h2 : 2 < n := by omega
    go_enter Try.func37, Try.ntmps37
    go_wp2
    go_ret2
    exact ⟨rfl, Below.refl _ _⟩

set_option maxHeartbeats 1000000 in
theorem refSort_long (s : ByteArray) (n : Int) (w : World) (h0 : 0 ≤ n) (h3 : n < 3) (hs : 1000 < s.size) : Calls Try.prog 37 #[.string s, .int .i64 n] w fun e w' => e = .returned (.tuple #[.slice none 0 0, .int .i64 2]) ∧ Below w.heap.size w w' := by
  have i1 : (1000 : Int) < (s.size : Int) := by omega
  have h2 : n ≤ 2 := by omega
  go_enter Try.func37, Try.ntmps37
  go_wp2
  go_ret2
  exact ⟨rfl, Below.refl _ _⟩

set_option maxHeartbeats 1000000 in
theorem refSort_any (s : ByteArray) (n : Int) (w : World) (h0 : 0 ≤ n) (h3 : n < 3) (hs : s.size ≤ 1000) : Calls Try.prog 37 #[.string s, .int .i64 n] w fun e w' => ∃ ad c R, e = .returned (.tuple #[.slice ad R.length c, .int .i64 0]) ∧ Sl w' ad R ∧ IsSA (bl s) R ∧ Below w.heap.size w w' := by
  have i1 : (s.size : Int) ≤ 1000 := by omega
  have h2 : n ≤ 2 := by omega
  go_enter Try.func37, Try.ntmps37
  go_wp2_with fail
  refine (all_any s w (by omega)).mono ?_
  rintro e w1 ⟨ad, c, R, rfl, hS, hSA, hb⟩
  go_wp2
  go_ret2
  exact ⟨ad, c, R, rfl, hS, hSA, hb⟩

set_option maxHeartbeats 1000000 in
theorem Common_long (s : ByteArray) (w : World) (hs : 1000 < s.size) : Calls Try.prog 20 #[.string s] w fun e w' => e = .returned (.tuple #[.slice none 0 0, .int .i64 2]) ∧ Below w.heap.size w w' := by
  have i1 : (1000 : Int) < (s.size : Int) := by omega
  go_enter Try.func20, Try.ntmps20
  go_wp2
  go_ret2
  exact ⟨rfl, Below.refl _ _⟩
end Go.Proofs.Ytepklbboejnecaa
