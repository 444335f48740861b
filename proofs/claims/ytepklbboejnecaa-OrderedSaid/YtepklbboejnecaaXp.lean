/- Thirds: the chosen places, sorted. -/
import Derived.Test.YtepklbboejnecaaXo
import Derived.Deep.RegionHeldLaw
import Derived.Laws.AppendOwnNone
namespace Go.Proofs.Ytepklbboejnecaa
open Go.RowKit Go.Shelf Sedge
attribute [local go_sem ↓] Go.wp_at_zero Go.wp_at_succ

/-- 'append(s, t...)' of two lists of the call's own, as one operation. -/
theorem wp_pushOwn {o : Oper} {a : Act} {w : World} {K : Act → World → Prop} {Q : Exit → Act → World → Prop}
    (s x : Operand) (hop : o.op = Op.call { callee := Callee.builtin Builtin.append, args := #[s, x], argTypes := #[36, 36] })
    (base : Nat) (v : Value) (xs : List Nat) (hs : a.eval s = v) (hown : w.ownsRow base 3 1 v xs.length (IV xs))
    (base2 : Nat) (vy : Value) (ys : List Nat) (hx : a.eval x = vy) (hy : w.ownsRow base2 3 1 vy ys.length (IV ys)) (hlen : xs.length + ys.length ≤ 1000000) (hbase : base ≤ w.heap.size)
    (hK : ∀ v' w', w'.ownsRow base 3 1 v' (xs ++ ys).length (IV (xs ++ ys)) → Below base w w' → K (a.put o.dst v') w') :
    o.wp Try.prog a w K Q := by
  obtain ⟨i0, hi, hz0, hz1, hz2⟩ := info_parts Try.infoInt
  obtain ⟨ad, c, e, hS⟩ := own_sl hy
  cases ad with
  | none =>
    have h0 : ys = [] := by
      match ys, hS with
      | [], _ => rfl
      | y :: ys, hS => obtain ⟨b, o, e, _⟩ := hS 0 (by simp); cases e
    subst h0
    have e0 : vy = .slice none 0 0 := by
      rcases hy.2 with ⟨h1, _⟩ | ⟨g, cap, cur, h1, _⟩
      · exact h1
      · rw [h1] at e; simp at e
    have hrun := run_append_owned_none (P := Try.prog) (w := w) base 36 o.type 3 i0 1 Try.underlying36 hi v xs.length (IV xs) hown
    have := hK v w (by simpa using hown) (Below.refl _ _)
    unfold Oper.wp execOp
    simp only [hop, resolve, invoke, builtin, Sem.run_bind, Sem.run_pure, Result.andThen_ok, List.map_toArray, List.map_cons, List.map_nil, hs, hx, e0, hrun]
    exact this
  | some ad =>
    have had : ∃ b off, ad = ⟨b, off, none⟩ := by
      rcases hy.2 with ⟨h1, _⟩ | ⟨g, cap, cur, h1, _⟩
      · rw [h1] at e; simp at e
      · rw [h1] at e; simp at e; exact ⟨g, 0, e.1.symm⟩
    obtain ⟨b, off, rfl⟩ := had
    refine wp_append_own w s x 36 hop base 3 i0 (.int .i64 0) 1 8 Try.underlying36 hi hz0 hz1 hz2 rfl (by decide) v xs.length (IV xs) hs hown ⟨b, off, none⟩ ys.length c (IV ys) (hx.trans e) (by simp [IV]) ?_ ?_ ?_ ?_ hbase ?_
    · intro j u hj
      have hj' : j < ys.length := by have := (List.getElem?_eq_some_iff.1 hj).1; simpa [IV] using this
      obtain ⟨b', o', e, hc⟩ := hS j hj'
      simp only [Option.some.injEq, Addr.mk.injEq, and_true] at e
      obtain ⟨rfl, rfl⟩ := e
      rw [Addr.add_lit, hc]
      rw [← hj]; simp [IV, num, List.getD, hj']
    · intro u hu
      simp only [IV, List.mem_map] at hu
      obtain ⟨y, _, rfl⟩ := hu; rfl
    · unfold maxLen; omega
    · omega
    · intro v' w' h1 h2 _
      refine hK v' w' ?_ ((Below.refl base w).grown h2 hbase (fun k e => (hown.lt k e).1))
      have e : IV (xs ++ ys) = IV xs ++ IV ys := by simp [IV]
      rw [e, List.length_append]; exact h1
theorem step_pushOwn {ops : Array Oper} {o : Oper} {a : Act} {w : World} {K : Act → World → Prop} {Q : Exit → Act → World → Prop} {E : Prop} (hg : o.guard = none) (d : Option Tmp) (hd : o.dst = d)
    (s x : Operand) (hop : o.op = Op.call { callee := Callee.builtin Builtin.append, args := #[s, x], argTypes := #[36, 36] })
    (base : Nat) (v : Value) (xs : List Nat) (hs : a.eval s = v) (hown : w.ownsRow base 3 1 v xs.length (IV xs))
    (base2 : Nat) (vy : Value) (ys : List Nat) (hx : a.eval x = vy) (hy : w.ownsRow base2 3 1 vy ys.length (IV ys)) (hlen : xs.length + ys.length ≤ 1000000) (hbase : base ≤ w.heap.size)
    (hK : ∀ v' w', w'.ownsRow base 3 1 v' (xs ++ ys).length (IV (xs ++ ys)) → Below base w w' → K (a.put d v') w') :
    if Region.wanted o (yielded ops a.tmps) = true then Oper.wp Try.prog o a w K Q else E := by
  subst hd
  have hw : Region.wanted o (yielded ops a.tmps) = true := by simp [Region.wanted, hg]
  rw [if_pos hw]
  exact wp_pushOwn s x hop base v xs hs hown base2 vy ys hx hy hlen hbase hK

theorem ofC_le (n k : Nat) : (ofC n k).length ≤ n := by
  have := List.length_filter_le (fun p => (n - p) % 3 == k) (List.range n)
  rw [List.length_range] at this; exact this
theorem chosen_le {n : Nat} : (chosen n).length ≤ n := by
  have := (chosen_nodup n).length_le_of_subset (l₂ := List.range n) (fun p hp => List.mem_range.2 (mem_chosen.1 hp).1)
  rwa [List.length_range] at this
theorem chosen_less {n : Nat} (h : 3 ≤ n) : (chosen n).length < n := by
  have h1 : ((n - 3) :: chosen n).Nodup := List.nodup_cons.2 ⟨fun c => by have := mem_chosen.1 c; omega, chosen_nodup n⟩
  have := h1.length_le_of_subset (l₂ := List.range n) (fun p hp => by
    rcases List.mem_cons.1 hp with rfl | hp
    · exact List.mem_range.2 (by omega)
    · exact List.mem_range.2 (mem_chosen.1 hp).1)
  rw [List.length_range, List.length_cons] at this; omega

theorem kinds_full {sm : Nat → Nat → Bool} {o : List Nat} (h : ∀ i, i + 1 < o.length → sm (num o i) (num o (i + 1)) = false) : kindsOf sm o = o.length := by
  have k : ∀ i, i < o.length → nm sm o i = i := by
    intro i
    induction i with
    | zero => intro _; rfl
    | succ i ih => intro hi; rw [nm, ih (by omega), h i hi]; simp
  unfold kindsOf
  split
  · omega
  · rw [k _ (by omega)]; omega
theorem kinds_short {l s : List Nat} {sm : Nat → Nat → Bool} (hs : Sorted (kh l 3) sm s) (hm : ∀ p, p ∈ s ↔ p ∈ chosen l.length) (h : l.length < 3) : kindsOf sm s = s.length := by
  refine kinds_full fun i hi => ?_
  cases hb : sm (num s i) (num s (i + 1)) with
  | false => rfl
  | true =>
    have e := congrArg List.length ((hs.same i hi).1 hb)
    rw [kh_length, kh_length] at e
    have a := (mem_chosen.1 ((hm _).1 (num_mem (show i < s.length by omega)))).1
    have b := (mem_chosen.1 ((hm _).1 (num_mem hi))).1
    have ab : num s i = num s (i + 1) := by omega
    have x1 := idx_num hs.nd (show i < s.length by omega)
    have x2 := idx_num hs.nd hi
    rw [ab, x2] at x1
    omega

/-- So many deals, the least weighty first. -/
def dealt (l C : List Nat) (K : Nat) : Nat → List Nat
  | 0 => C
  | t + 1 => flat (Sedge.part (fun p => rk l (p + (2 - t))) (dealt l C K t)) K
theorem dealt_three (l C : List Nat) (K : Nat) : dealt l C K 3 = deals3 l C K := rfl
theorem dealt_mem {l C : List Nat} {K : Nat} (hK : ∀ p, rk l p < K) : ∀ t p, p ∈ dealt l C K t ↔ p ∈ C
  | 0, p => Iff.rfl
  | t + 1, p => by
    show p ∈ flat (Sedge.part (fun p => rk l (p + (2 - t))) (dealt l C K t)) K ↔ _
    rw [mem_flat_part (fun p _ => hK _), dealt_mem hK t p]
theorem flat_part_length {β : Nat → Nat} {l : List Nat} {K : Nat} (h : ∀ p, p ∈ l → β p < K) : (flat (Sedge.part β l) K).length = l.length := by
  have := ps_cnt (β := β) (l := l) (K := K) h
  rw [← this]
  exact flat_length K
end Go.Proofs.Ytepklbboejnecaa
