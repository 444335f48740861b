/- Plain mathematics: two sorted lists merged. -/
import Derived.Test.YthlfifjdpiabeaaMc
namespace Sedge

theorem suf_tri {l : List Nat} {p q : Nat} (hp : p < l.length) (hq : q < l.length) (hne : p ≠ q) : suf l p q ∨ suf l q p := by
  rcases lt_tri (l.drop p) (l.drop q) with c | c | c
  · exact .inl c
  · have := congrArg List.length c; simp at this; omega
  · exact .inr c

/-- How far merging has come: what is out, what is left of both. -/
structure Merging (l P out a b : List Nat) : Prop where
  pw : out.Pairwise (suf l)
  pa : a.Pairwise (suf l)
  pb : b.Pairwise (suf l)
  oa : ∀ x ∈ out, ∀ y ∈ a, suf l x y
  ob : ∀ x ∈ out, ∀ y ∈ b, suf l x y
  ne : ∀ x ∈ a, ∀ y ∈ b, x ≠ y
  mem : ∀ p, p ∈ P ↔ p ∈ out ∨ p ∈ a ∨ p ∈ b
  len : out.length + a.length + b.length = P.length
  lt : ∀ p ∈ P, p < l.length
section
variable {l P out a b : List Nat} {x y : Nat}
theorem Merging.left (h : Merging l P out (x :: a) (y :: b)) (hs : suf l x y) : Merging l P (out ++ [x]) a (y :: b) := by
  have pa := List.pairwise_cons.1 h.pa
  have pb := List.pairwise_cons.1 h.pb
  refine ⟨?_, pa.2, h.pb, ?_, ?_, fun u hu v hv => h.ne u (by simp [hu]) v hv, ?_, ?_, h.lt⟩
  · rw [List.pairwise_append]
    exact ⟨h.pw, by simp, fun u hu v hv => by
      have : v = x := by simpa using hv
      subst this; exact h.oa u hu v (by simp)⟩
  · intro u hu v hv
    rw [List.mem_append] at hu
    rcases hu with hu | hu
    · exact h.oa u hu v (by simp [hv])
    · have : u = x := by simpa using hu
      subst this; exact pa.1 v hv
  · intro u hu v hv
    rw [List.mem_append] at hu
    rcases hu with hu | hu
    · exact h.ob u hu v hv
    · have : u = x := by simpa using hu
      subst this
      rcases List.mem_cons.1 hv with e | e
      · subst e; exact hs
      · exact lt_tr hs (pb.1 v e)
  · intro p; rw [h.mem]; simp only [List.mem_append, List.mem_cons, List.not_mem_nil, or_false]
    constructor
    · rintro (c | (c | c) | c)
      · exact .inl (.inl c)
      · exact .inl (.inr c)
      · exact .inr (.inl c)
      · exact .inr (.inr c)
    · rintro ((c | c) | c | c)
      · exact .inl c
      · exact .inr (.inl (.inl c))
      · exact .inr (.inl (.inr c))
      · exact .inr (.inr c)
  · have := h.len; simp at this ⊢; omega
theorem Merging.swap (h : Merging l P out a b) : Merging l P out b a :=
  ⟨h.pw, h.pb, h.pa, h.ob, h.oa, fun x hx y hy e => h.ne y hy x hx e.symm, fun p => by rw [h.mem]; constructor <;> rintro (c | c | c) <;> simp [c], by have := h.len; omega, h.lt⟩
theorem Merging.right (h : Merging l P out (x :: a) (y :: b)) (hs : ¬ suf l x y) : Merging l P (out ++ [y]) (x :: a) b := by
  refine (h.swap.left ?_).swap
  have hx := h.lt x ((h.mem x).2 (by simp))
  have hy := h.lt y ((h.mem y).2 (by simp))
  rcases suf_tri hx hy (h.ne x (by simp) y (by simp)) with c | c
  · exact absurd c hs
  · exact c
/-- Where one is used up: what is out, and all that is left. -/
theorem Merging.done (h : Merging l P out a b) (he : a = [] ∨ b = []) : (out ++ a ++ b).Pairwise (suf l) ∧ (∀ p, p ∈ out ++ a ++ b ↔ p ∈ P) ∧ (out ++ a ++ b).length = P.length := by
  refine ⟨?_, fun p => by rw [h.mem]; simp, by have := h.len; simp; omega⟩
  rw [List.pairwise_append, List.pairwise_append]
  refine ⟨⟨h.pw, h.pa, h.oa⟩, h.pb, fun u hu v hv => ?_⟩
  rw [List.mem_append] at hu
  rcases hu with hu | hu
  · exact h.ob u hu v hv
  · rcases he with e | e
    · subst e; simp at hu
    · subst e; simp at hv
end
/-- Two halves, sorted. -/
theorem merging_start {l P A B : List Nat} (hP : P.Nodup) (hlt : ∀ p ∈ P, p < l.length) {m : Nat} (pa : A.Pairwise (suf l)) (ma : ∀ p, p ∈ A ↔ p ∈ P.take m) (la : A.length = (P.take m).length)
    (pb : B.Pairwise (suf l)) (mb : ∀ p, p ∈ B ↔ p ∈ P.drop m) (lb : B.length = (P.drop m).length) : Merging l P [] A B := by
  have hsplit : (P.take m ++ P.drop m).Nodup := by rw [List.take_append_drop]; exact hP
  refine ⟨by simp, pa, pb, by simp, by simp, ?_, ?_, ?_, hlt⟩
  · intro x hx y hy
    exact (List.pairwise_append.1 hsplit).2.2 x ((ma x).1 hx) y ((mb y).1 hy)
  · intro p
    have : p ∈ P ↔ p ∈ P.take m ++ P.drop m := by rw [List.take_append_drop]
    rw [this, List.mem_append, ma, mb]; simp
  · have : P.length = (P.take m ++ P.drop m).length := by rw [List.take_append_drop]
    rw [this, List.length_append, la, lb]; simp
end Sedge
