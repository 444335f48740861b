/- The law of the parts: Parted walked. -/
import Derived.Test.YtepklbboejnecaaWy
namespace Go.Proofs.Ytepklbboejnecaa
open Go.RowKit Go.Shelf Sedge
attribute [local go_sem ↓] Go.wp_at_zero Go.wp_at_succ

theorem some_SA (l : List Nat) : ∀ m, m ≤ l.length → ∃ o : List Nat, o.Pairwise (suf l) ∧ ∀ p, p ∈ o ↔ p < m := by
  classical
  intro m
  induction m with
  | zero => intro _; exact ⟨[], List.Pairwise.nil, fun p => by simp⟩
  | succ m ih =>
    intro hm
    obtain ⟨o, ho, hp⟩ := ih (by omega)
    refine ⟨o.filter (fun p => decide (suf l p m)) ++ m :: o.filter (fun p => decide (suf l m p)), ?_, ?_⟩
    · refine List.pairwise_append.2 ⟨ho.filter _, List.pairwise_cons.2 ⟨fun a ha => of_decide_eq_true (List.mem_filter.1 ha).2, ho.filter _⟩, ?_⟩
      intro a ha b hb
      have h1 : suf l a m := of_decide_eq_true (List.mem_filter.1 ha).2
      rcases List.mem_cons.1 hb with rfl | hb
      · exact h1
      · have h2 : suf l m b := of_decide_eq_true (List.mem_filter.1 hb).2
        exact lt_tr h1 h2
    · intro p
      simp only [List.mem_append, List.mem_cons, List.mem_filter, decide_eq_true_eq, hp]
      constructor
      · rintro (h | h | h) <;> omega
      · intro h
        by_cases e : p = m
        · exact Or.inr (Or.inl e)
        · rcases suf_tri (l := l) (show p < l.length by omega) (show m < l.length by omega) e with c | c
          · exact Or.inl ⟨by omega, c⟩
          · exact Or.inr (Or.inr ⟨by omega, c⟩)

theorem exists_SA (l : List Nat) : ∃ o, IsSA l o := some_SA l l.length (Nat.le_refl _)

theorem num_any (n : Int) (w : World) : Calls Try.prog 40 #[.int .i64 n] w fun e w' => e = .returned (.int .i64 n) ∧ w' = w := by
  go_enter Try.func40, Try.ntmps40
  go_wp2
  go_ret
  exact ⟨rfl, rfl⟩

set_option maxHeartbeats 2000000 in
theorem parts_of (s : ByteArray) (n : Int) (w : World) (x : Int) (e : Int) (t : ByteArray) (f : Int)
    (h1 : ∀ w : World, Calls Try.prog 21 #[.string s] w fun r w' => r = .returned (.tuple #[.int .i64 x, .int .i64 e]) ∧ Below w.heap.size w w')
    (h2 : ∀ w : World, Calls Try.prog 47 #[.string s] w fun r w' => r = .returned (.tuple #[.int .i64 x, .int .i64 e]) ∧ Below w.heap.size w w')
    (h3 : ∀ w : World, Calls Try.prog 22 #[.string s, .int .i64 n] w fun r w' => r = .returned (.tuple #[.string t, .int .i64 f]) ∧ Below w.heap.size w w')
    (h4 : ∀ w : World, Calls Try.prog 48 #[.string s, .int .i64 n] w fun r w' => r = .returned (.tuple #[.string t, .int .i64 f]) ∧ Below w.heap.size w w') :
    Calls Try.prog 16 #[.string s, .int .i64 n] w fun r w' => r = .returned (.bool true) ∧ Below w.heap.size w w' := by
  have H1 : Hid _ := h1
  have H2 : Hid _ := h2
  have H3 : Hid _ := h3
  have H4 : Hid _ := h4
  clear h1 h2 h3 h4
  go_enter Try.func16, Try.ntmps16
  go_wp2_with fail
  refine (H1.out _).mono ?_
  rintro r w1 ⟨rfl, b1⟩
  go_wp2_with fail
  refine (H2.out _).mono ?_
  rintro r w2 ⟨rfl, b2⟩
  have b02 := Below.later b1 b2
  clear b1 b2
  go_wp2_with fail
  refine (H3.out _).mono ?_
  rintro r w3 ⟨rfl, b3⟩
  have b03 := Below.later b02 b3
  clear b02 b3
  go_wp2_with fail
  refine (H4.out _).mono ?_
  rintro r w4 ⟨rfl, b4⟩
  have b04 := Below.later b03 b4
  clear b03 b4
  go_wp2_with fail
  refine (num_any _ _).mono ?_
  rintro r w5 ⟨rfl, rfl⟩
  go_wp2_with fail
  refine (num_any _ _).mono ?_
  rintro r w6 ⟨rfl, rfl⟩
  go_wp2
  go_ret
  exact ⟨rfl, b04⟩

theorem parts_any (s : ByteArray) (n : Int) (w : World) (hn : n ≤ 9223372036854775807) :
    Calls Try.prog 16 #[.string s, .int .i64 n] w fun r w' => r = .returned (.bool true) ∧ Below w.heap.size w w' := by
  by_cases hs : s.size ≤ 1000
  · obtain ⟨o, ho⟩ := exists_SA (bl s)
    by_cases h0 : n < 0
    · exact parts_of s n w _ _ _ _ (fun w => Parts_any s w hs o ho) (fun w => refParts_any s w hs o ho) (fun w => Part_neg s n w hs h0) (fun w => refPart_neg s n w hs h0 o ho)
    · obtain ⟨k, rfl⟩ := Int.eq_ofNat_of_zero_le (show 0 ≤ n by omega)
      exact parts_of s k w _ _ _ _ (fun w => Parts_any s w hs o ho) (fun w => refParts_any s w hs o ho) (fun w => Part_any s k w hs (by omega) o ho) (fun w => refPart_any s k w hs o ho)
  · exact parts_of s n w _ _ _ _ (fun w => Parts_long s w (by omega)) (fun w => refParts_long s w (by omega)) (fun w => Part_long s n w (by omega)) (fun w => refPart_long s n w (by omega))

set_option maxHeartbeats 2000000 in
theorem parted_any (a : ByteArray) (n : Int) (b : ByteArray) (m : Int) (w : World) (hn : n ≤ 9223372036854775807) (hm : m ≤ 9223372036854775807) :
    Calls Try.prog 4 #[.string a, .int .i64 n, .string b, .int .i64 m] w fun r w' => r = .returned (.bool true) ∧ Below w.heap.size w w' := by
  go_enter Try.func4, Try.ntmps4
  go_wp2_with fail
  refine (parts_any _ _ _ hn).mono ?_
  rintro r w1 ⟨rfl, b1⟩
  go_wp2_with fail
  refine (parts_any _ _ _ hn).mono ?_
  rintro r w2 ⟨rfl, b2⟩
  have b02 := Below.later b1 b2
  clear b1 b2
  go_wp2_with fail
  refine (parts_any _ _ _ hm).mono ?_
  rintro r w3 ⟨rfl, b3⟩
  have b03 := Below.later b02 b3
  clear b02 b3
  go_wp2_with fail
  refine (parts_any _ _ _ hn).mono ?_
  rintro r w4 ⟨rfl, b4⟩
  have b04 := Below.later b03 b4
  clear b03 b4
  go_wp2_with fail
  refine (parts_any _ _ _ (by omega)).mono ?_
  rintro r w5 ⟨rfl, b5⟩
  have b05 := Below.later b04 b5
  clear b04 b5
  go_wp2_with fail
  refine (parts_any _ _ _ (by omega)).mono ?_
  rintro r w6 ⟨rfl, b6⟩
  have b06 := Below.later b05 b6
  clear b05 b6
  go_wp2
  go_ret
  exact ⟨rfl, b06⟩
end Go.Proofs.Ytepklbboejnecaa
