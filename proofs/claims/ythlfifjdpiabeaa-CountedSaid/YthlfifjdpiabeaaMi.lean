/- Plain mathematics: the different parts in their order. -/
import Derived.Test.YthlfifjdpiabeaaMf
namespace Sedge

theorem take_lt {n n' : Nat} : ∀ (x : List Nat), n < n' → n' ≤ x.length → x.take n < x.take n' := by
  intro x
  induction x generalizing n n' with
  | nil => intro h k; simp at k; omega
  | cons a x ih =>
    intro h k
    cases n' with
    | zero => omega
    | succ n' =>
      cases n with
      | zero => exact List.nil_lt_cons a _
      | succ n =>
        simp only [List.take_succ_cons, List.cons_lt_cons_iff]
        have k' : n' ≤ x.length := by simpa using k
        exact Or.inr ⟨trivial, ih (Nat.lt_of_succ_lt_succ h) k'⟩

theorem take_lt_take : ∀ (x y : List Nat) (n n' : Nat), x < y → lcp x y < n' → x.take n < y.take n'
  | [], [], _, _, h, _ => by simp at h
  | [], b :: bs, n, n', _, k => by
    cases n' with
    | zero => omega
    | succ n' => simp
  | a :: as, [], _, _, h, _ => by simp at h
  | a :: as, b :: bs, n, n', h, k => by
    cases n' with
    | zero => omega
    | succ n' =>
      cases n with
      | zero => simp
      | succ n =>
        simp only [List.take_succ_cons, List.cons_lt_cons_iff] at h ⊢
        rcases h with h | ⟨e, h⟩
        · exact Or.inl h
        · rw [lcp_cons, if_pos e] at k
          exact Or.inr ⟨e, take_lt_take as bs n n' h (by omega)⟩

theorem take_of_lcp : ∀ (x y : List Nat) (m : Nat), m ≤ lcp x y → x.take m = y.take m
  | [], y, m, h => by rw [lcp_nil] at h; have : m = 0 := by omega
                      subst this; simp
  | a :: as, [], m, h => by rw [lcp_nil'] at h; have : m = 0 := by omega
                            subst this; simp
  | a :: as, b :: bs, m, h => by
    cases m with
    | zero => simp
    | succ m =>
      rw [lcp_cons] at h
      split at h
      · rename_i e
        simp only [List.take_succ_cons]
        rw [e, take_of_lcp as bs m (by omega)]
      · omega

section
variable {l o : List Nat}
theorem IsSA.lcp_cm (h : IsSA l o) {i j : Nat} (hij : i < j) (hj : j < o.length) : lcp (l.drop (num o i)) (l.drop (num o j)) ≤ cm l o j := by
  unfold cm
  rw [if_neg (by omega)]
  by_cases e : i = j - 1
  · rw [e, lcp_comm]; exact Nat.le_refl _
  · rw [lcp_comm (l.drop (num o j))]
    exact lcp_between _ _ _ (h.lt (show i < j - 1 by omega) (by omega)) (h.lt (show j - 1 < j by omega) hj)

/-- Of two places in the table the later one's part is greater. -/
theorem IsSA.part_lt (h : IsSA l o) {i j a b : Nat} (hj : j < o.length) (hij : i < j ∨ (i = j ∧ a < b)) (hb : cm l o j + b + 1 ≤ l.length - num o j) :
    (l.drop (num o i)).take (cm l o i + a + 1) < (l.drop (num o j)).take (cm l o j + b + 1) := by
  rcases hij with c | ⟨rfl, c⟩
  · have := h.lcp_cm c hj
    exact take_lt_take _ _ _ _ (h.lt c hj) (by omega)
  · exact take_lt _ (by omega) (by simpa using hb)

theorem many_at {n m : Nat} (h : n < many l o m) : ∃ i, i < m ∧ many l o i ≤ n ∧ n < many l o (i + 1) := by
  induction m with
  | zero => simp [many] at h
  | succ m ih =>
    by_cases c : n < many l o m
    · obtain ⟨i, h1, h2, h3⟩ := ih c
      exact ⟨i, by omega, h2, h3⟩
    · exact ⟨m, by omega, by omega, h⟩

theorem first_with (p m : Nat) (h0 : 0 < m) : ∀ i, (l.drop (num o i)).take m = (l.drop p).take m → m ≤ l.length - num o i → ∃ j, j ≤ i ∧ (l.drop (num o j)).take m = (l.drop p).take m ∧ m ≤ l.length - num o j ∧ cm l o j < m := by
  intro i
  induction i with
  | zero => intro h k; exact ⟨0, by omega, h, k, by simp [cm]; omega⟩
  | succ i ih =>
    intro h k
    by_cases c : cm l o (i + 1) < m
    · exact ⟨i + 1, by omega, h, k, c⟩
    · have e : m ≤ lcp (l.drop (num o (i + 1))) (l.drop (num o i)) := by
        have : cm l o (i + 1) = lcp (l.drop (num o (i + 1))) (l.drop (num o i)) := by simp [cm]
        omega
      have e1 := take_of_lcp _ _ m e
      have e2 := lcp_le_right (l.drop (num o (i + 1))) (l.drop (num o i))
      rw [List.length_drop] at e2
      obtain ⟨j, h1, h2, h3, h4⟩ := ih (by rw [← e1]; exact h) (by omega)
      exact ⟨j, by omega, h2, h3, h4⟩

/-- Whichever part one takes is told. -/
theorem IsSA.told (h : IsSA l o) {p m : Nat} (hm : 0 < m) (hp : p + m ≤ l.length) : ∃ i a, i < o.length ∧ (l.drop p).take m = (l.drop (num o i)).take (cm l o i + a + 1) ∧ cm l o i + a + 1 ≤ l.length - num o i ∧ a < brings l o i := by
  obtain ⟨h1, h2⟩ := h.rank (show p < l.length by omega)
  obtain ⟨j, g1, g2, g3, g4⟩ := first_with (l := l) (o := o) p m hm (Sedge.rank o p) (by rw [h2]) (by rw [h2]; omega)
  refine ⟨j, m - cm l o j - 1, by omega, ?_, by omega, ?_⟩
  · rw [show cm l o j + (m - cm l o j - 1) + 1 = m by omega]; exact g2.symm
  · unfold brings; omega

theorem IsSA.some (h : IsSA l o) (h0 : 0 < l.length) : 0 < many l o o.length := by
  have hl := h.length
  have h1 := h.num_lt (i := 0) (by omega)
  have h2 : many l o 1 ≤ many l o o.length := many_mono l o (by omega)
  have h3 : many l o 1 = many l o 0 + brings l o 0 := rfl
  have h4 : brings l o 0 = l.length - num o 0 - 0 := by simp [brings, cm]
  omega
end
end Sedge
