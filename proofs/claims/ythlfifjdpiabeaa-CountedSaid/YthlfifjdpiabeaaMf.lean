/- Plain mathematics: how far ends agree; what is told by it of a text's parts. -/
import Derived.Test.YthlfifjdpiabeaaMc
namespace Sedge

/-- How many numbers two lists have in common, from the first on. -/
def lcp : List Nat → List Nat → Nat
  | x :: a, y :: b => if x = y then lcp a b + 1 else 0
  | _, _ => 0
theorem lcp_nil (a : List Nat) : lcp [] a = 0 := by cases a <;> rfl
theorem lcp_nil' (a : List Nat) : lcp a [] = 0 := by cases a <;> rfl
theorem lcp_cons (x y : Nat) (a b : List Nat) : lcp (x :: a) (y :: b) = if x = y then lcp a b + 1 else 0 := rfl
theorem lcp_comm : ∀ (a b : List Nat), lcp a b = lcp b a
  | [], b => by rw [lcp_nil, lcp_nil']
  | x :: a, [] => by rw [lcp_nil, lcp_nil']
  | x :: a, y :: b => by
    rw [lcp_cons, lcp_cons, lcp_comm a b]
    by_cases h : x = y
    · simp [h]
    · have h' : ¬ y = x := fun e => h e.symm
      simp [h, h']
theorem lcp_le_left : ∀ (a b : List Nat), lcp a b ≤ a.length
  | [], b => by rw [lcp_nil]; simp
  | x :: a, [] => by rw [lcp_nil']; simp
  | x :: a, y :: b => by
    rw [lcp_cons]; have := lcp_le_left a b
    split <;> simp <;> omega
theorem lcp_le_right (a b : List Nat) : lcp a b ≤ b.length := by rw [lcp_comm]; exact lcp_le_left b a
/-- Up to there they agree; and not behind it. -/
theorem lcp_eq_iff : ∀ (a b : List Nat) (k : Nat), (k ≤ lcp a b ↔ k ≤ a.length ∧ k ≤ b.length ∧ ∀ j, j < k → num a j = num b j)
  | a, b, 0 => by simp
  | [], b, k + 1 => by rw [lcp_nil]; simp
  | x :: a, [], k + 1 => by rw [lcp_nil']; simp
  | x :: a, y :: b, k + 1 => by
    rw [lcp_cons]
    have ih := lcp_eq_iff a b k
    have hs : ∀ (z : Nat) (l : List Nat) (j : Nat), num (z :: l) (j + 1) = num l j := fun z l j => by simp [num, List.getD]
    have h0 : ∀ (z : Nat) (l : List Nat), num (z :: l) 0 = z := fun z l => by simp [num, List.getD]
    by_cases h : x = y
    · rw [if_pos h]
      constructor
      · intro c
        obtain ⟨h1, h2, h3⟩ := ih.1 (by omega)
        refine ⟨by simpa using h1, by simpa using h2, fun j hj => ?_⟩
        cases j with
        | zero => rw [h0, h0]; exact h
        | succ j => rw [hs, hs]; exact h3 j (by omega)
      · rintro ⟨h1, h2, h3⟩
        have := ih.2 ⟨by simpa using h1, by simpa using h2, fun j hj => by have := h3 (j + 1) (by omega); rwa [hs, hs] at this⟩
        omega
    · rw [if_neg h]
      constructor
      · intro c; omega
      · rintro ⟨_, _, h3⟩
        have := h3 0 (by omega)
        rw [h0, h0] at this; exact absurd this h
theorem lcp_drop {a b : List Nat} {k : Nat} (h : k ≤ lcp a b) : lcp a b = k + lcp (a.drop k) (b.drop k) := by
  induction k generalizing a b with
  | zero => simp
  | succ k ih =>
    match a, b with
    | [], b => rw [lcp_nil] at h; omega
    | x :: a, [] => rw [lcp_nil'] at h; omega
    | x :: a, y :: b =>
      rw [lcp_cons] at h ⊢
      split at h
      · rename_i e
        rw [if_pos e, ih (by omega)]
        simp only [List.drop_succ_cons]; omega
      · omega
/-- What stands between two has as much in common with the greater one. -/
theorem lcp_between : ∀ (a b c : List Nat), a < b → b < c → lcp a c ≤ lcp b c
  | [], b, c, _, _ => by rw [lcp_nil]; exact Nat.zero_le _
  | x :: a, [], c, h, _ => absurd h (not_lt_nil _)
  | x :: a, y :: b, [], _, h => absurd h (not_lt_nil _)
  | x :: a, y :: b, z :: c, h, k => by
    rw [cons_lt] at h k
    rw [lcp_cons, lcp_cons]
    by_cases e : x = z
    · subst e
      have hy : y = x := by
        rcases h with h | ⟨h, _⟩ <;> rcases k with k | ⟨k, _⟩ <;> omega
      subst hy
      rw [if_pos rfl, if_pos rfl]
      rcases h with h | ⟨_, h⟩
      · omega
      · rcases k with k | ⟨_, k⟩
        · omega
        · have := lcp_between a b c h k; omega
    · rw [if_neg e]; exact Nat.zero_le _

/-- How far the i-th end in order agrees with the one ahead of it. -/
def cm (l o : List Nat) (i : Nat) : Nat := if i = 0 then 0 else lcp (l.drop (num o i)) (l.drop (num o (i - 1)))
theorem cm_le (l o : List Nat) (i : Nat) : cm l o i ≤ l.length - num o i := by
  unfold cm; split
  · omega
  · have := lcp_le_left (l.drop (num o i)) (l.drop (num o (i - 1))); rwa [List.length_drop] at this

section
variable {l o : List Nat}
theorem IsSA.num_lt (h : IsSA l o) {i : Nat} (hi : i < o.length) : num o i < l.length := (h.2 _).1 (num_mem hi)
theorem IsSA.lt (h : IsSA l o) {i j : Nat} (hij : i < j) (hj : j < o.length) : suf l (num o i) (num o j) := by
  have := List.pairwise_iff_getElem.1 h.1 i j (by omega) hj hij
  rwa [← num_eq (by omega), ← num_eq hj] at this
/-- The rank of a place. -/
def rank (o : List Nat) (p : Nat) : Nat := o.idxOf p
theorem IsSA.rank (h : IsSA l o) {p : Nat} (hp : p < l.length) : rank o p < o.length ∧ num o (rank o p) = p := idx_of_mem ((h.2 p).2 hp)
theorem IsSA.rank_lt (h : IsSA l o) {p q : Nat} (hp : p < l.length) (hq : q < l.length) (hs : suf l p q) : Sedge.rank o p < Sedge.rank o q := by
  obtain ⟨a1, a2⟩ := h.rank hp
  obtain ⟨b1, b2⟩ := h.rank hq
  rcases Nat.lt_trichotomy (Sedge.rank o p) (Sedge.rank o q) with c | c | c
  · exact c
  · rw [← a2, ← b2, c] at hs; exact absurd hs (lt_irr _)
  · have := h.lt c a1
    rw [a2, b2] at this; exact absurd hs (lt_as this)
theorem lcp_suc {p q : Nat} (hp : p < l.length) (hq : q < l.length) (h : 0 < lcp (l.drop p) (l.drop q)) : lcp (l.drop (p + 1)) (l.drop (q + 1)) = lcp (l.drop p) (l.drop q) - 1 ∧ num l p = num l q := by
  rw [drop_num hp, drop_num hq, lcp_cons] at h ⊢
  split at h
  · rename_i e; rw [if_pos e]; exact ⟨by omega, e⟩
  · omega
/-- An end without its first number has at most one less in common with the one ahead of it. -/
theorem kasai (h : IsSA l o) {p : Nat} (hp : p + 1 < l.length) : cm l o (rank o p) - 1 ≤ cm l o (rank o (p + 1)) := by
  by_cases h1 : 1 < cm l o (rank o p)
  · obtain ⟨a1, a2⟩ := h.rank (show p < l.length by omega)
    obtain ⟨b1, b2⟩ := h.rank hp
    unfold cm at h1 ⊢
    rw [a2] at h1 ⊢
    rw [b2]
    by_cases r0 : rank o p = 0
    · rw [if_pos r0] at h1; omega
    · rw [if_neg r0] at h1 ⊢
      have hq := h.num_lt (show rank o p - 1 < o.length by omega)
      have hs := h.lt (show rank o p - 1 < rank o p by omega) a1
      rw [a2] at hs
      generalize hqe : num o (rank o p - 1) = q at hq hs h1 ⊢
      obtain ⟨c1, c2⟩ := lcp_suc (show p < l.length by omega) hq (by omega)
      have hq1 : q + 1 < l.length := by
        by_cases e : q + 1 < l.length
        · exact e
        · rw [drop_last (show l.length ≤ q + 1 by omega), lcp_nil'] at c1; omega
      have hs1 : suf l (q + 1) (p + 1) := by
        unfold suf at hs ⊢
        rw [drop_num hq, drop_num (show p < l.length by omega), cons_lt] at hs
        rcases hs with hs | ⟨_, hs⟩
        · omega
        · exact hs
      have hr := h.rank_lt hq1 hp hs1
      rw [if_neg (by omega)]
      obtain ⟨d1, d2⟩ := h.rank hq1
      by_cases e : rank o (q + 1) = rank o (p + 1) - 1
      · rw [← e, d2, c1]; exact Nat.le_refl _
      · have x1 := h.lt (show rank o (q + 1) < rank o (p + 1) - 1 by omega) (by omega)
        have x2 := h.lt (show rank o (p + 1) - 1 < rank o (p + 1) by omega) b1
        rw [d2] at x1
        rw [b2] at x2
        have := lcp_between _ _ _ x1 x2
        rw [lcp_comm (l.drop (p + 1)) (l.drop (num o (rank o (p + 1) - 1)))]
        rw [lcp_comm (l.drop (q + 1)) (l.drop (p + 1)), c1] at this
        exact this
  · omega

/-- How many parts the first k ends in order bring. -/
def brings (l o : List Nat) (i : Nat) : Nat := l.length - num o i - cm l o i
def many (l o : List Nat) : Nat → Nat
  | 0 => 0
  | k + 1 => many l o k + brings l o k
theorem many_mono (l o : List Nat) {a b : Nat} (h : a ≤ b) : many l o a ≤ many l o b := by
  induction b with
  | zero => have : a = 0 := by omega
            subst this; exact Nat.le_refl _
  | succ b ih =>
    by_cases e : a = b + 1
    · subst e; exact Nat.le_refl _
    · have := ih (by omega); simp only [many]; omega
theorem many_le (l o : List Nat) (k : Nat) : many l o k ≤ k * l.length := by
  induction k with
  | zero => simp [many]
  | succ k ih =>
    simp only [many, brings, Nat.succ_mul]; omega
theorem brings_int {i : Nat} (h : num o i ≤ l.length) : ((brings l o i : Nat) : Int) = (l.length : Int) - num o i - cm l o i := by
  have := cm_le l o i; unfold brings; omega
end
end Sedge
