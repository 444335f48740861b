/- The law of the parts: Parted walked. -/
import Derived.Test.YtepklbboejnecaaGreatWy
namespace Go.Proofs.YtepklbboejnecaaGreat
open Go.RowKit Go.Shelf Sedge
attribute [local go_sem ↓] Go.wp_at_zero Go.wp_at_succ

theorem some_SA (l : List Nat) : ∀ m, m ≤ l.length → ∃ o : List Nat, o.Pairwise (suf l) ∧ ∀ p, p ∈ o ↔ p < m := by
  classical
  intro m
  induction m with
  | zero => intro _; exact ⟨[], List.Pairwise.nil, fun p => by simp⟩
  | succ m ih =>
    intro hm
    obtain ⟨o, ho, hp⟩ := ih (by omega)
    refine ⟨o.filter (fun p => decide (suf l p m)) ++ m :: o.filter (fun p => decide (suf l m p)), ?_, ?_⟩
    · refine List.pairwise_append.2 ⟨ho.filter _, List.pairwise_cons.2 ⟨fun a ha => of_decide_eq_true (List.mem_filter.1 ha).2, ho.filter _⟩, ?_⟩
      intro a ha b hb
      have h1 : suf l a m := of_decide_eq_true (List.mem_filter.1 ha).2
      rcases List.mem_cons.1 hb with rfl | hb
      · exact h1
      · have h2 : suf l m b := of_decide_eq_true (List.mem_filter.1 hb).2
        exact lt_tr h1 h2
    · intro p
      simp only [List.mem_append, List.mem_cons, List.mem_filter, decide_eq_true_eq, hp]
      constructor
      · rintro (h | h | h) <;> omega
      · intro h
        by_cases e : p = m
        · exact Or.inr (Or.inl e)
        · rcases suf_tri (l := l) (show p < l.length by omega) (show m < l.length by omega) e with c | c
          · exact Or.inl ⟨by omega, c⟩
          · exact Or.inr (Or.inr ⟨by omega, c⟩)

theorem exists_SA (l : List Nat) : ∃ o, IsSA l o := some_SA l l.length (Nat.le_refl _)

theorem num_any (n : Int) (w : World) : Calls Tryz.prog 22 #[.int .i64 n] w fun e w' => e = .returned (.int .i64 n) ∧ w' = w := by
  go_enter Tryz.func22, Tryz.ntmps22
  go_wp2
  go_ret
  exact ⟨rfl, rfl⟩

end Go.Proofs.YtepklbboejnecaaGreat
