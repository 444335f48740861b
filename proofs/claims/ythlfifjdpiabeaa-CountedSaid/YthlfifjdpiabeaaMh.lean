/- Plain mathematics: dealing keeps an order among equals; ends sorted by twice as many numbers. -/
import Derived.Test.YthlfifjdpiabeaaMd
namespace Sedge

/-- Dealt by β: first by β, among equals as they lay. -/
theorem flat_part_pairwise {β : Nat → Nat} {R : Nat → Nat → Prop} {l : List Nat} (h : l.Pairwise R) (K : Nat) :
    (flat (part β l) K).Pairwise (fun a b => β a < β b ∨ (β a = β b ∧ R a b)) := by
  induction K with
  | zero => exact List.Pairwise.nil
  | succ K ih =>
    rw [flat_succ]
    refine List.pairwise_append.2 ⟨ih, ?_, ?_⟩
    · unfold part
      refine List.Pairwise.imp_of_mem (fun {a b} ha hb hab => ?_) (h.filter (fun p => β p == K))
      have e1 : β a = K := by simpa using (List.mem_filter.1 ha).2
      have e2 : β b = K := by simpa using (List.mem_filter.1 hb).2
      exact Or.inr ⟨by omega, hab⟩
    · intro a ha b hb
      obtain ⟨c, hc, hac⟩ := mem_flat.1 ha
      have e1 : β a = c := by simpa using (List.mem_filter.1 hac).2
      have e2 : β b = K := by simpa using (List.mem_filter.1 hb).2
      exact Or.inl (by omega)

theorem mem_flat_part {β : Nat → Nat} {l : List Nat} {K : Nat} (hK : ∀ p, p ∈ l → β p < K) (p : Nat) : p ∈ flat (part β l) K ↔ p ∈ l := by
  rw [mem_flat]
  constructor
  · rintro ⟨c, _, h⟩; exact (List.mem_filter.1 h).1
  · intro h; exact ⟨β p, hK p h, List.mem_filter.2 ⟨h, by simp⟩⟩

/-- The first h numbers of the end at p. -/
def kh (l : List Nat) (h p : Nat) : List Nat := (l.drop p).take h

theorem kh_end {l : List Nat} {h p : Nat} (hp : l.length ≤ p) : kh l h p = [] := by simp [kh, List.drop_of_length_le hp]
theorem kh_double (l : List Nat) (h p : Nat) : kh l (h + h) p = kh l h p ++ kh l h (p + h) := by
  unfold kh
  rw [List.take_add, List.drop_drop]
theorem kh_full {l : List Nat} {h p : Nat} (hh : l.length ≤ h) : kh l h p = l.drop p := by
  unfold kh
  exact List.take_of_length_le (by simp; omega)

theorem lt_take : ∀ (h : Nat) (a b : List Nat), a.take h < b.take h → a < b
  | 0, a, b, k => by simp at k
  | h + 1, [], [], k => by simp at k
  | h + 1, [], b :: bs, _ => List.nil_lt_cons b bs
  | h + 1, a :: as, [], k => by simp at k
  | h + 1, a :: as, b :: bs, k => by
    simp only [List.take_succ_cons, List.cons_lt_cons_iff] at k ⊢
    rcases k with k | ⟨e, k⟩
    · exact Or.inl k
    · exact Or.inr ⟨e, lt_take h as bs k⟩

theorem lt_halves : ∀ (h : Nat) (a b x y : List Nat), b.length ≤ h → (a.length = h ∨ x = []) → a < b → a ++ x < b ++ y
  | h, [], [], x, y, _, _, k => by simp at k
  | h, [], b :: bs, x, y, hb, ha, _ => by
    rcases ha with ha | rfl
    · simp at ha hb; omega
    · exact List.nil_lt_cons b _
  | h, a :: as, [], x, y, _, _, k => by simp at k
  | 0, a :: as, b :: bs, x, y, hb, _, _ => by simp at hb
  | h + 1, a :: as, b :: bs, x, y, hb, ha, k => by
    simp only [List.cons_append, List.cons_lt_cons_iff] at k ⊢
    rcases k with k | ⟨e, k⟩
    · exact Or.inl k
    · exact Or.inr ⟨e, lt_halves h as bs x y (by simpa using hb) (by simpa using ha) k⟩

theorem kh_len (l : List Nat) (h p : Nat) : (kh l h p).length ≤ h := by simp [kh]; omega
theorem kh_or (l : List Nat) (h p : Nat) : (kh l h p).length = h ∨ kh l h (p + h) = [] := by
  by_cases c : p + h ≤ l.length
  · exact Or.inl (by simp [kh]; omega)
  · exact Or.inr (kh_end (by omega))

theorem kh_double_eq {l : List Nat} {h p q : Nat} : kh l (h + h) p = kh l (h + h) q ↔ kh l h p = kh l h q ∧ kh l h (p + h) = kh l h (q + h) := by
  constructor
  · intro e
    have e1 : (kh l (h + h) p).take h = (kh l (h + h) q).take h := by rw [e]
    have e2 : (kh l (h + h) p).drop h = (kh l (h + h) q).drop h := by rw [e]
    unfold kh at *
    rw [List.take_take, List.take_take, Nat.min_eq_left (by omega)] at e1
    refine ⟨e1, ?_⟩
    rw [List.drop_take, List.drop_take, List.drop_drop, List.drop_drop, Nat.add_sub_cancel] at e2
    exact e2
  · rintro ⟨e1, e2⟩
    rw [kh_double, kh_double, e1, e2]

theorem kh_double_lt {l : List Nat} {h p q : Nat} (H : kh l h p < kh l h q ∨ (kh l h p = kh l h q ∧ kh l h (p + h) < kh l h (q + h))) : kh l (h + h) p < kh l (h + h) q := by
  rw [kh_double, kh_double]
  rcases H with H | ⟨e, H⟩
  · exact lt_halves h _ _ _ _ (kh_len l h q) (kh_or l h p) H
  · rw [e]; exact List.append_left_lt H

/-- The rank of a place, from 1 on; 0 behind the last. -/
def rk (r : List Nat) (p : Nat) : Nat := if p < r.length then num r p + 1 else 0

/-- Ranks r stand for the order by the first h numbers. -/
structure Ranks (l : List Nat) (h : Nat) (r : List Nat) : Prop where
  len : r.length = l.length
  eq : ∀ p q, p < l.length → q < l.length → (num r p = num r q ↔ kh l h p = kh l h q)
  lt : ∀ p q, p < l.length → q < l.length → (num r p < num r q ↔ kh l h p < kh l h q)

theorem kh_ne {l : List Nat} {h p : Nat} (h0 : 0 < h) (hp : p < l.length) : kh l h p ≠ [] := by
  intro e
  have : (kh l h p).length = 0 := by rw [e]; rfl
  simp [kh] at this
  omega

theorem Ranks.rk_eq {l r : List Nat} {h : Nat} (R : Ranks l h r) (h0 : 0 < h) (p q : Nat) : rk r p = rk r q ↔ kh l h p = kh l h q := by
  unfold rk
  rw [R.len]
  by_cases hp : p < l.length <;> by_cases hq : q < l.length
  · rw [if_pos hp, if_pos hq, ← R.eq p q hp hq]; omega
  · rw [if_pos hp, if_neg hq, kh_end (show l.length ≤ q by omega)]
    exact ⟨fun e => by omega, fun e => absurd e (kh_ne h0 hp)⟩
  · rw [if_neg hp, if_pos hq, kh_end (show l.length ≤ p by omega)]
    exact ⟨fun e => by omega, fun e => absurd e.symm (kh_ne h0 hq)⟩
  · rw [if_neg hp, if_neg hq, kh_end (show l.length ≤ p by omega), kh_end (show l.length ≤ q by omega)]
    simp

theorem Ranks.rk_lt {l r : List Nat} {h : Nat} (R : Ranks l h r) (h0 : 0 < h) (p q : Nat) (H : rk r p < rk r q) : kh l h p < kh l h q := by
  unfold rk at H
  rw [R.len] at H
  by_cases hp : p < l.length <;> by_cases hq : q < l.length
  · rw [if_pos hp, if_pos hq] at H; exact (R.lt p q hp hq).1 (by omega)
  · rw [if_pos hp, if_neg hq] at H; omega
  · rw [kh_end (show l.length ≤ p by omega)]
    obtain ⟨a, as, e⟩ := List.exists_cons_of_ne_nil (kh_ne h0 hq)
    rw [e]; exact List.nil_lt_cons a as
  · rw [if_neg hp, if_neg hq] at H; omega

/-- An order by the first h numbers: all places, each once. -/
structure ByH (l : List Nat) (h : Nat) (sm : Nat → Nat → Bool) (o : List Nat) : Prop where
  srt : Sorted (kh l h) sm o
  mem : ∀ p, p ∈ o ↔ p < l.length

theorem ByH.length {l o : List Nat} {h : Nat} {sm : Nat → Nat → Bool} (B : ByH l h sm o) : o.length = l.length := by
  have e : o.Perm (List.range l.length) := by
    rw [List.perm_ext_iff_of_nodup B.srt.nd List.nodup_range]
    intro p; rw [B.mem, List.mem_range]
  simpa using e.length_eq

theorem num_range_map {n : Nat} {f : Nat → Nat} {p : Nat} (h : p < n) : num ((List.range n).map f) p = f p := by simp [num, List.getD, h]

theorem ByH.ranks {l o : List Nat} {h : Nat} {sm : Nat → Nat → Bool} (B : ByH l h sm o) : Ranks l h ((List.range l.length).map (nameOf sm o)) where
  len := by simp
  eq := fun p q hp hq => by
    rw [num_range_map hp, num_range_map hq]
    exact B.srt.name_eq ((B.mem p).2 hp) ((B.mem q).2 hq)
  lt := fun p q hp hq => by
    rw [num_range_map hp, num_range_map hq]
    exact B.srt.name_lt ((B.mem p).2 hp) ((B.mem q).2 hq)

theorem sorted_of_pairwise {K : Nat → List Nat} {sm : Nat → Nat → Bool} {o : List Nat} (h : o.Pairwise fun a b => (K a < K b ∨ K a = K b) ∧ a ≠ b) (hs : ∀ a b, a ∈ o → b ∈ o → (sm a b = true ↔ K a = K b)) : Sorted K sm o where
  nd := List.Pairwise.imp (fun h => h.2) h
  le := fun i j hij hj => by
    rw [num_eq (show i < o.length by omega), num_eq hj]
    exact (List.pairwise_iff_getElem.1 h i j (by omega) hj hij).1
  same := fun i hi => hs _ _ (num_mem (by omega)) (num_mem hi)

/-- Twice as many numbers. -/
theorem Ranks.step {l o r : List Nat} {h : Nat} {sm : Nat → Nat → Bool} (R : Ranks l h r) (h0 : 0 < h) {K : Nat} (hK : ∀ p, rk r p < K) (B : ByH l h sm o) :
    ByH l (h + h) (fun a b => decide (rk r a = rk r b ∧ rk r (a + h) = rk r (b + h))) (flat (part (fun p => rk r p) (flat (part (fun p => rk r (p + h)) o) K)) K) where
  srt := by
    have p0 : o.Pairwise (fun a b => a ≠ b) := B.srt.nd
    have p1 := flat_part_pairwise (β := fun p => rk r (p + h)) p0 K
    have p2 := flat_part_pairwise (β := fun p => rk r p) p1 K
    refine sorted_of_pairwise (p2.imp fun {a b} hab => ?_) (fun a b _ _ => ?_)
    · rcases hab with c | ⟨e, c | ⟨e', c⟩⟩
      · exact ⟨Or.inl (kh_double_lt (Or.inl (R.rk_lt h0 _ _ c))), fun x => by subst x; omega⟩
      · exact ⟨Or.inl (kh_double_lt (Or.inr ⟨(R.rk_eq h0 _ _).1 e, R.rk_lt h0 _ _ c⟩)), fun x => by subst x; omega⟩
      · exact ⟨Or.inr (kh_double_eq.2 ⟨(R.rk_eq h0 _ _).1 e, (R.rk_eq h0 _ _).1 e'⟩), c⟩
    · rw [decide_eq_true_eq, kh_double_eq, R.rk_eq h0, R.rk_eq h0]
  mem := fun p => by
    rw [mem_flat_part (fun p _ => hK _), mem_flat_part (fun p _ => hK _), B.mem]

/-- The first one. -/
theorem byH_one {l : List Nat} {K : Nat} (hK : ∀ p, p < l.length → num l p < K) :
    ByH l 1 (fun a b => decide (num l a = num l b)) (flat (part (num l) (List.range l.length)) K) where
  srt := by
    have p0 : (List.range l.length).Pairwise (fun a b => a ≠ b) := List.nodup_range
    have p1 := flat_part_pairwise (β := num l) p0 K
    have one : ∀ p, p < l.length → kh l 1 p = [num l p] := fun p hp => by
      unfold kh; rw [drop_num hp]; simp
    have hm : ∀ p, p ∈ flat (part (num l) (List.range l.length)) K → p < l.length := fun p hp => by
      have := (mem_flat_part (β := num l) (l := List.range l.length) (K := K) (fun p hp => hK p (List.mem_range.1 hp)) p).1 hp
      exact List.mem_range.1 this
    refine sorted_of_pairwise (List.Pairwise.imp_of_mem (fun {a b} ha hb hab => ?_) p1) (fun a b ha hb => ?_)
    · rw [one a (hm a ha), one b (hm b hb)]
      rcases hab with c | ⟨e, c⟩
      · exact ⟨Or.inl (by simp [List.cons_lt_cons_iff, c]), fun x => by subst x; omega⟩
      · exact ⟨Or.inr (by rw [e]), c⟩
    · rw [decide_eq_true_eq, one a (hm a ha), one b (hm b hb)]; simp
  mem := fun p => by
    rw [mem_flat_part (fun p hp => hK p (List.mem_range.1 hp)), List.mem_range]

/-- Where every name is another's, the ends are sorted. -/
theorem ByH.done {l o : List Nat} {h : Nat} {sm : Nat → Nat → Bool} (B : ByH l h sm o) (hk : kindsOf sm o = o.length) : IsSA l o :=
  ⟨(B.srt.strict hk).imp fun hab => lt_take h _ _ hab, B.mem⟩

/-- By as many numbers as there are, every name is another's. -/
theorem ByH.full {l o : List Nat} {h : Nat} {sm : Nat → Nat → Bool} (B : ByH l h sm o) (hh : l.length ≤ h) : kindsOf sm o = o.length := by
  by_cases h0 : o.length = 0
  · simp [kindsOf, h0]
  · have key : ∀ i, i < o.length → nm sm o i = i := by
      intro i
      induction i with
      | zero => intro _; have := nm_le sm o 0; omega
      | succ i ih =>
        intro hi
        have e := ih (by omega)
        have hl := B.length
        have m1 := (B.mem _).1 (num_mem (show i < o.length by omega))
        have m2 := (B.mem _).1 (num_mem hi)
        have ne : num o i ≠ num o (i + 1) := fun x => by
          have := idx_num B.srt.nd (show i < o.length by omega)
          rw [x, idx_num B.srt.nd hi] at this; omega
        have lt := B.srt.nm_lt (i := i) (j := i + 1) (by omega) hi
        have le := B.srt.le i (i + 1) (by omega) hi
        rcases le with c | c
        · have := lt.2 c; have := nm_le sm o (i + 1); omega
        · rw [kh_full hh, kh_full hh] at c
          have := congrArg List.length c
          simp at this; omega
    unfold kindsOf
    rw [if_neg h0, key _ (by omega)]; omega
end Sedge
