/- Turned. -/
import Derived.Test.YtepklbboejnecaaZg
namespace Go.Proofs.Ytepklbboejnecaa
open Go.RowKit Go.Shelf Sedge
attribute [local go_sem ↓] Go.wp_at_zero Go.wp_at_succ

/-- What Turn tells, by the document. -/
def TurnTell (w : World) (T : ByteArray) (r k : Int) (e : Ending) (w' : World) : Prop := e = .returned (.tuple #[.string T, .int .i64 r, .int .i64 k]) ∧ Below w.heap.size w w'
theorem turn_both (s : ByteArray) : ∃ T r k, (∀ w, Calls Try.prog 31 #[.string s] w (TurnTell w T r k)) ∧ (∀ w, Calls Try.prog 59 #[.string s] w (TurnTell w T r k)) := by
  by_cases h : 1000 < s.size
  · exact ⟨_, _, _, fun w => Turn_long s w h, fun w => refTurn_long s w h⟩
  · obtain ⟨o, ho⟩ := exists_SA (bl s)
    exact ⟨_, _, _, fun w => Turn_any s o ho w (by omega), fun w => refTurn_any s o ho w (by omega)⟩
theorem unturn_both (s : ByteArray) (n : Int) : ∃ t k, (∀ w, Calls Try.prog 32 #[.string s, .int .i64 n] w fun e w' => e = .returned (.tuple #[.string t, .int .i64 k]) ∧ Below w.heap.size w w') ∧ (∀ w, Calls Try.prog 60 #[.string s, .int .i64 n] w fun e w' => e = .returned (.tuple #[.string t, .int .i64 k]) ∧ Below w.heap.size w w') := by
  by_cases h : 1000 < s.size
  · exact ⟨_, _, fun w => Unturn_long s n w h, fun w => refUnturn_long s n w h⟩
  · by_cases ht : ∃ t, Texts s n t
    · obtain ⟨t, ht⟩ := ht
      have key : ∀ w e w', Unturns s n w e w' → e = .returned (.tuple #[.string t, .int .i64 0]) ∧ Below w.heap.size w w' := by
        rintro w e w' ⟨t', k, rfl, hk, hb⟩
        rcases hk with ⟨rfl, h1⟩ | ⟨_, _, h1⟩
        · rw [Texts.inj h1 ht]; exact ⟨rfl, hb⟩
        · exact absurd ht (h1 t)
      exact ⟨t, 0, fun w => (Unturn_any s n w (by omega)).mono (key w), fun w => (refUnturn_any s n w (by omega)).mono (key w)⟩
    · have key : ∀ w e w', Unturns s n w e w' → e = .returned (.tuple #[.string ⟨#[]⟩, .int .i64 5]) ∧ Below w.heap.size w w' := by
        rintro w e w' ⟨t', k, rfl, hk, hb⟩
        rcases hk with ⟨rfl, h1⟩ | ⟨rfl, rfl, h1⟩
        · exact absurd ⟨t', h1⟩ ht
        · exact ⟨rfl, hb⟩
      exact ⟨_, _, fun w => (Unturn_any s n w (by omega)).mono (key w), fun w => (refUnturn_any s n w (by omega)).mono (key w)⟩

set_option maxHeartbeats 2000000 in
/-- 'turn'. -/
theorem lturn_any (s : ByteArray) (w : World) : Calls Try.prog 27 #[.string s] w fun e w' => e = .returned (.bool true) ∧ Below w.heap.size w w' := by
  obtain ⟨T, r, k, c1, c2⟩ := turn_both s
  have HC1 : Hid _ := c1
  have HC2 : Hid _ := c2
  clear c1 c2
  go_enter Try.func27, Try.ntmps27
  go_wp2_with fail
  refine Calls.mono (HC1.out _) ?_
  rintro e w1 ⟨rfl, hb1⟩
  go_wp2_with fail
  refine Calls.mono (HC2.out _) ?_
  rintro e w2 ⟨rfl, hb2⟩
  go_wp2_with (first | (go_at_call 40; refine (num_any k _).mono ?_; rintro e w5 ⟨rfl, rfl⟩) | fail)
  go_ret
  exact ⟨rfl, Below.later hb1 hb2⟩
set_option maxHeartbeats 2000000 in
/-- 'unturn'. -/
theorem lunturn_any (s : ByteArray) (n : Int) (w : World) : Calls Try.prog 28 #[.string s, .int .i64 n] w fun e w' => e = .returned (.bool true) ∧ Below w.heap.size w w' := by
  obtain ⟨T, k, c1, c2⟩ := unturn_both s n
  have HC1 : Hid _ := c1
  have HC2 : Hid _ := c2
  clear c1 c2
  go_enter Try.func28, Try.ntmps28
  go_wp2_with fail
  refine Calls.mono (HC1.out _) ?_
  rintro e w1 ⟨rfl, hb1⟩
  go_wp2_with fail
  refine Calls.mono (HC2.out _) ?_
  rintro e w2 ⟨rfl, hb2⟩
  go_wp2_with (first | (go_at_call 40; refine (num_any k _).mono ?_; rintro e w5 ⟨rfl, rfl⟩) | fail)
  go_ret
  exact ⟨rfl, Below.later hb1 hb2⟩

set_option maxRecDepth 20000 in
set_option maxHeartbeats 4000000 in
theorem turned_any (text last : ByteArray) (row : Int) (other : ByteArray) (w : World) :
    Calls Try.prog 8 #[.string text, .string last, .int .i64 row, .string other] w fun e w' => e = .returned (.bool true) ∧ Below w.heap.size w w' := by
  go_enter Try.func8, Try.ntmps8
  go_wp2_with fail
  refine (lturn_any _ _).mono ?_
  rintro e w1 ⟨rfl, b1⟩
  go_wp2_with fail
  refine (lunturn_any _ _ _).mono ?_
  rintro e w2 ⟨rfl, b2⟩
  have b02 := Below.later b1 b2
  clear b1 b2
  go_wp2_with fail
  refine (lturn_any _ _).mono ?_
  rintro e w3 ⟨rfl, b3⟩
  have b03 := Below.later b02 b3
  clear b02 b3
  go_wp2_with fail
  refine (lunturn_any _ _ _).mono ?_
  rintro e w4 ⟨rfl, b4⟩
  have b04 := Below.later b03 b4
  clear b03 b4
  go_wp2_with fail
  refine (lturn_any _ _).mono ?_
  rintro e w5 ⟨rfl, b5⟩
  have b05 := Below.later b04 b5
  clear b04 b5
  go_wp2_with fail
  refine (lunturn_any _ _ _).mono ?_
  rintro e w6 ⟨rfl, b6⟩
  have b06 := Below.later b05 b6
  clear b05 b6
  go_wp2_with fail
  refine (lturn_any _ _).mono ?_
  rintro e w7 ⟨rfl, b7⟩
  have b07 := Below.later b06 b7
  clear b06 b7
  go_wp2_with fail
  refine (lunturn_any _ _ _).mono ?_
  rintro e w8 ⟨rfl, b8⟩
  have b08 := Below.later b07 b8
  clear b07 b8
  go_wp2
  go_ret
  exact ⟨rfl, b08⟩
end Go.Proofs.Ytepklbboejnecaa
