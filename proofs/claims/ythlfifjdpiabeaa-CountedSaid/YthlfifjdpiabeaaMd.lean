/- Plain mathematics: buckets as pieces of one row. -/
import Derived.Test.YthlfifjdpiabeaaMc
namespace Sedge

/-- Where a bucket begins: the sizes of those ahead of it. -/
def ps (sz : Nat → Nat) : Nat → Nat
  | 0 => 0
  | c + 1 => ps sz c + sz c
theorem ps_mono (sz : Nat → Nat) {a b : Nat} (h : a ≤ b) : ps sz a ≤ ps sz b := by
  induction b with
  | zero => have : a = 0 := by omega
            subst this; exact Nat.le_refl _
  | succ b ih =>
    by_cases e : a = b + 1
    · subst e; exact Nat.le_refl _
    · have := ih (by omega); simp only [ps]; omega
theorem ps_next (sz : Nat → Nat) {a b : Nat} (h : a < b) : ps sz a + sz a ≤ ps sz b := ps_mono sz (show a + 1 ≤ b by omega)
theorem ps_congr {sz sz' : Nat → Nat} {K : Nat} (h : ∀ c, c < K → sz c = sz' c) : ps sz K = ps sz' K := by
  induction K with
  | zero => rfl
  | succ K ih => simp only [ps]; rw [ih (fun c hc => h c (by omega)), h K (by omega)]

/-- How many of a list belong into a bucket. -/
def part (β : Nat → Nat) (l : List Nat) (c : Nat) : List Nat := l.filter fun p => β p == c
def cnt (β : Nat → Nat) (l : List Nat) (c : Nat) : Nat := (part β l c).length
theorem part_nil (β : Nat → Nat) : part β [] = fun _ => [] := by funext c; simp [part]
theorem take_num {l : List Nat} {k : Nat} (h : k < l.length) : l.take (k + 1) = l.take k ++ [num l k] := by
  rw [List.take_succ_eq_append_getElem h, num_eq h]
theorem part_take {β : Nat → Nat} {l : List Nat} {k : Nat} (h : k < l.length) : part β (l.take (k + 1)) = push (part β (l.take k)) (β (num l k)) (num l k) := by
  funext c
  unfold part push
  rw [take_num h, List.filter_append]
  by_cases e : β (num l k) = c
  · simp [e]
  · have e' : ¬ c = β (num l k) := fun x => e x.symm
    simp [e, e']
theorem cnt_take {β : Nat → Nat} {l : List Nat} {k : Nat} (h : k < l.length) (c : Nat) : cnt β (l.take (k + 1)) c = if c = β (num l k) then cnt β (l.take k) c + 1 else cnt β (l.take k) c := by
  unfold cnt; rw [part_take h]; unfold push
  split
  · rename_i e; simp [e]
  · rfl
theorem cnt_le (β : Nat → Nat) (l : List Nat) (c : Nat) : cnt β l c ≤ l.length := List.length_filter_le _ _
theorem cnt_take_le (β : Nat → Nat) (l : List Nat) (k c : Nat) : cnt β (l.take k) c ≤ cnt β l c := by
  unfold cnt part
  exact (List.Sublist.filter _ (List.take_sublist k l)).length_le
theorem cnt_take_lt {β : Nat → Nat} {l : List Nat} {k : Nat} (h : k < l.length) : cnt β (l.take k) (β (num l k)) < cnt β l (β (num l k)) := by
  have a := cnt_take (β := β) h (β (num l k))
  have b := cnt_take_le β l (k + 1) (β (num l k))
  rw [if_pos rfl] at a
  omega
theorem filter_split (β : Nat → Nat) (K : Nat) : ∀ (l : List Nat), (l.filter fun p => decide (β p < K)).length + (l.filter fun p => β p == K).length = (l.filter fun p => decide (β p < K + 1)).length
  | [] => rfl
  | x :: l => by
    have ih := filter_split β K l
    simp only [List.filter_cons]
    by_cases a : β x < K
    · have b : ¬ β x = K := by omega
      have c : β x < K + 1 := by omega
      simp [a, b, c]; omega
    · by_cases b : β x = K
      · simp [b]; omega
      · have c : ¬ β x < K + 1 := by omega
        simp [a, b, c]; omega
theorem ps_cnt_lt (β : Nat → Nat) (l : List Nat) (K : Nat) : ps (cnt β l) K = (l.filter fun p => decide (β p < K)).length := by
  induction K with
  | zero => rw [List.filter_eq_nil_iff.2 (by simp)]; rfl
  | succ K ih => rw [← filter_split, ← ih]; rfl
theorem ps_cnt {β : Nat → Nat} {l : List Nat} {K : Nat} (h : ∀ p ∈ l, β p < K) : ps (cnt β l) K = l.length := by
  rw [ps_cnt_lt, List.filter_eq_self.2 (fun p hp => by simpa using h p hp)]

/-- Buckets that are full make up the row. -/
theorem flat_succ (f : Nat → List Nat) (K : Nat) : flat f (K + 1) = flat f K ++ f K := by simp [flat, List.range_succ]
theorem flat_row {f : Nat → List Nat} {o : List Nat} : ∀ {K : Nat}, ps (fun c => (f c).length) K ≤ o.length → (∀ c, c < K → ∀ i, i < (f c).length → num o (ps (fun c => (f c).length) c + i) = num (f c) i) → o.take (ps (fun c => (f c).length) K) = flat f K := by
  intro K
  induction K with
  | zero => intro _ _; simp [ps, flat]
  | succ K ih =>
    intro hl h
    simp only [ps] at hl
    have a := ih (by omega) (fun c hc => h c (by omega))
    rw [flat_succ, ← a]
    simp only [ps]
    rw [List.take_add]
    congr 1
    apply List.ext_getElem
    · simp; omega
    · intro i h1 h2
      have b := h K (by omega) i h2
      rw [num_eq h2, num_eq (by omega)] at b
      simp [← b]
theorem flat_length {f : Nat → List Nat} (K : Nat) : (flat f K).length = ps (fun c => (f c).length) K := by
  induction K with
  | zero => simp [flat, ps]
  | succ K ih => rw [flat_succ]; simp [ps, ih]
theorem flat_row_all {f : Nat → List Nat} {o : List Nat} {K : Nat} (hl : ps (fun c => (f c).length) K = o.length) (h : ∀ c, c < K → ∀ i, i < (f c).length → num o (ps (fun c => (f c).length) c + i) = num (f c) i) : o = flat f K := by
  have := flat_row (K := K) (by omega) h
  rwa [hl, List.take_length] at this
theorem mem_flat {f : Nat → List Nat} {K x : Nat} : x ∈ flat f K ↔ ∃ c, c < K ∧ x ∈ f c := by simp [flat, List.mem_flatMap]
end Sedge
