/- Plain mathematics: names for sorted places; keys, pieces, the smaller row of names; the places of all ends in order. -/
import Derived.Test.YthlfifjdpiabeaaMb
namespace Sedge

/-! ### Names for places that are sorted by a key -/

/-- The name of the i-th place of a list: how many of the places up to it are not like the one ahead. -/
def nm (same : Nat → Nat → Bool) (o : List Nat) : Nat → Nat
  | 0 => 0
  | i + 1 => nm same o i + if same (num o i) (num o (i + 1)) then 0 else 1
def nameOf (same : Nat → Nat → Bool) (o : List Nat) (p : Nat) : Nat := if p ∈ o then nm same o (o.idxOf p) else 0
/-- How many names there are. -/
def kindsOf (same : Nat → Nat → Bool) (o : List Nat) : Nat := if o.length = 0 then 0 else nm same o (o.length - 1) + 1

theorem num_mem {o : List Nat} {i : Nat} (h : i < o.length) : num o i ∈ o := by
  have : num o i = o[i] := by simp [num, List.getD, h]
  rw [this]; exact List.getElem_mem _
theorem num_eq {o : List Nat} {i : Nat} (h : i < o.length) : num o i = o[i] := by simp [num, List.getD, h]
theorem idx_num {o : List Nat} (hn : o.Nodup) {i : Nat} (h : i < o.length) : o.idxOf (num o i) = i := by
  rw [num_eq h]; exact hn.idxOf_getElem i h
theorem nameOf_num {same : Nat → Nat → Bool} {o : List Nat} (hn : o.Nodup) {i : Nat} (h : i < o.length) : nameOf same o (num o i) = nm same o i := by
  unfold nameOf; rw [if_pos (num_mem h), idx_num hn h]
theorem idx_of_mem {o : List Nat} {p : Nat} (h : p ∈ o) : o.idxOf p < o.length ∧ num o (o.idxOf p) = p := by
  have a := List.idxOf_lt_length_iff.2 h
  exact ⟨a, by rw [num_eq a]; exact List.getElem_idxOf a⟩
theorem nm_le (same : Nat → Nat → Bool) (o : List Nat) (i : Nat) : nm same o i ≤ i := by
  induction i with
  | zero => simp [nm]
  | succ i ih => simp only [nm]; split <;> omega
theorem nm_mono (same : Nat → Nat → Bool) (o : List Nat) {i j : Nat} (h : i ≤ j) : nm same o i ≤ nm same o j := by
  induction j with
  | zero => have : i = 0 := by omega
            subst this; exact Nat.le_refl _
  | succ j ih =>
    by_cases e : i = j + 1
    · subst e; exact Nat.le_refl _
    · have := ih (by omega)
      simp only [nm]; omega

/-- What names are good for: K: the key by which the list is sorted; same: have two places the same key? -/
structure Sorted (K : Nat → List Nat) (same : Nat → Nat → Bool) (o : List Nat) : Prop where
  nd : o.Nodup
  le : ∀ i j, i < j → j < o.length → K (num o i) < K (num o j) ∨ K (num o i) = K (num o j)
  same : ∀ i, i + 1 < o.length → (same (num o i) (num o (i + 1)) = true ↔ K (num o i) = K (num o (i + 1)))

section
variable {K : Nat → List Nat} {same : Nat → Nat → Bool} {o : List Nat}
theorem Sorted.nm_eq (h : Sorted K same o) {i : Nat} : ∀ {j : Nat}, i ≤ j → j < o.length → (nm same o i = nm same o j ↔ K (num o i) = K (num o j)) := by
  intro j
  induction j with
  | zero => intro hij _; have : i = 0 := by omega
            subst this; simp
  | succ j ih =>
    intro hij hj
    by_cases e : i = j + 1
    · subst e; simp
    · have a := ih (by omega) (by omega)
      have m := nm_mono same o (show i ≤ j by omega)
      have hs := h.same j hj
      by_cases c : same (num o j) (num o (j + 1)) = true
      · simp only [nm, c, if_true, Nat.add_zero]
        rw [← hs.1 c]; exact a
      · constructor
        · intro k; simp only [nm, c] at k; simp at k; omega
        · intro k
          exfalso
          have c' : K (num o j) ≠ K (num o (j + 1)) := fun e => c (hs.2 e)
          have d : K (num o j) < K (num o (j + 1)) := by
            rcases h.le j (j + 1) (by omega) hj with d | d
            · exact d
            · exact absurd d c'
          by_cases e' : i = j
          · subst e'; rw [k] at d; exact lt_irr _ d
          · rcases h.le i j (by omega) (by omega) with d' | d'
            · rw [k] at d'; exact lt_as d d'
            · rw [← d', k] at d; exact lt_irr _ d
theorem Sorted.nm_lt (h : Sorted K same o) {i j : Nat} (hij : i ≤ j) (hj : j < o.length) : nm same o i < nm same o j ↔ K (num o i) < K (num o j) := by
  have a := h.nm_eq hij hj
  have m := nm_mono same o hij
  constructor
  · intro c
    have : ¬ K (num o i) = K (num o j) := fun e => by have := a.2 e; omega
    by_cases e : i = j
    · subst e; omega
    · rcases h.le i j (by omega) hj with d | d
      · exact d
      · exact absurd d this
  · intro c
    have : nm same o i ≠ nm same o j := fun e => by rw [a.1 e] at c; exact lt_irr _ c
    omega
theorem Sorted.name_eq (h : Sorted K same o) {a b : Nat} (ha : a ∈ o) (hb : b ∈ o) : nameOf same o a = nameOf same o b ↔ K a = K b := by
  obtain ⟨a1, a2⟩ := idx_of_mem ha
  obtain ⟨b1, b2⟩ := idx_of_mem hb
  unfold nameOf; rw [if_pos ha, if_pos hb]
  rcases Nat.le_total (o.idxOf a) (o.idxOf b) with c | c
  · rw [h.nm_eq c b1, a2, b2]
  · have := h.nm_eq c a1
    rw [a2, b2] at this
    exact ⟨fun e => (this.1 e.symm).symm, fun e => (this.2 e.symm).symm⟩
theorem Sorted.name_lt (h : Sorted K same o) {a b : Nat} (ha : a ∈ o) (hb : b ∈ o) : nameOf same o a < nameOf same o b ↔ K a < K b := by
  obtain ⟨a1, a2⟩ := idx_of_mem ha
  obtain ⟨b1, b2⟩ := idx_of_mem hb
  unfold nameOf; rw [if_pos ha, if_pos hb]
  rcases Nat.le_total (o.idxOf a) (o.idxOf b) with c | c
  · rw [h.nm_lt c b1, a2, b2]
  · have k := h.nm_lt c a1
    have e := h.nm_eq c a1
    rw [a2, b2] at k e
    constructor
    · intro d; have := nm_mono same o c; omega
    · intro d
      have n1 : ¬ nm same o (o.idxOf b) < nm same o (o.idxOf a) := fun x => lt_as d (k.1 x)
      have n2 : ¬ nm same o (o.idxOf b) = nm same o (o.idxOf a) := fun x => by rw [e.1 x] at d; exact lt_irr _ d
      omega
theorem name_lt_kinds {p : Nat} (hp : p ∈ o) : nameOf same o p < kindsOf same o := by
  obtain ⟨a1, _⟩ := idx_of_mem hp
  unfold nameOf kindsOf; rw [if_pos hp, if_neg (by omega)]
  have := nm_mono same o (show o.idxOf p ≤ o.length - 1 by omega)
  omega
theorem kinds_le : kindsOf same o ≤ o.length := by
  unfold kindsOf; split
  · omega
  · have := nm_le same o (o.length - 1); omega
/-- As many names as places: each place has a name of its own, and the list is sorted strictly. -/
theorem nm_full (h : kindsOf same o = o.length) : ∀ i, i < o.length → nm same o i = i := by
  unfold kindsOf at h
  intro i hi
  rw [if_neg (by omega)] at h
  have key : ∀ k, k < o.length → nm same o (o.length - 1 - k) = o.length - 1 - k := by
    intro k
    induction k with
    | zero => intro _; simp; omega
    | succ k ih =>
      intro hk
      have a := ih (by omega)
      have e : o.length - 1 - k = (o.length - 1 - (k + 1)) + 1 := by omega
      rw [e] at a
      simp only [nm] at a
      have := nm_le same o (o.length - 1 - (k + 1))
      split at a <;> omega
  have := key (o.length - 1 - i) (by omega)
  have e : o.length - 1 - (o.length - 1 - i) = i := by omega
  rwa [e] at this
theorem Sorted.strict (h : Sorted K same o) (hk : kindsOf same o = o.length) : o.Pairwise (fun a b => K a < K b) := by
  rw [List.pairwise_iff_getElem]
  intro i j hi hj hij
  have := (h.nm_lt (show i ≤ j by omega) hj).1 (by rw [nm_full hk i hi, nm_full hk j hj]; exact hij)
  rwa [num_eq hi, num_eq hj] at this
end

/-! ### Keys of the first going through: up to the next start, and then its place -/

def keyUp (l : List Nat) : Nat → Nat → List Nat
  | 0, _ => []
  | f + 1, p => if slope l p = 1 then buck l p :: keyUp l f (p + 1) else [buck l p, p]
def keyAll (l : List Nat) : Nat → Nat → List Nat
  | 0, _ => []
  | f + 1, p => if slope l p = 1 then keyUp l (f + 1) p else buck l p :: keyAll l f (p + 1)
def pcUp (l : List Nat) : Nat → Nat → List Nat
  | 0, _ => []
  | f + 1, p => if slope l p = 1 then buck l p :: pcUp l f (p + 1) else [buck l p]
def pcAll (l : List Nat) : Nat → Nat → List Nat
  | 0, _ => []
  | f + 1, p => if slope l p = 1 then pcUp l (f + 1) p else buck l p :: pcAll l f (p + 1)
def k1 (l : List Nat) (p : Nat) : List Nat := keyUp l (l.length - p) p
def k2 (l : List Nat) (p : Nat) : List Nat := keyAll l (l.length - p) p
def c1 (l : List Nat) (p : Nat) : List Nat := pcUp l (l.length - p) p
def c2 (l : List Nat) (p : Nat) : List Nat := pcAll l (l.length - p) p

section
variable {l : List Nat} {p q : Nat}
theorem k1_up (h : slope l p = 1) : k1 l p = buck l p :: k1 l (p + 1) := by
  have a := slope_lt h
  unfold k1; rw [show l.length - p = (l.length - (p + 1)) + 1 by omega]; simp [keyUp, h]
theorem k1_start (hp : p < l.length) (h : slope l p = 0) : k1 l p = [buck l p, p] := by
  unfold k1; rw [show l.length - p = (l.length - (p + 1)) + 1 by omega]; simp [keyUp, h]
theorem k2_up (h : slope l p = 1) : k2 l p = k1 l p := by
  have a := slope_lt h
  unfold k1 k2; rw [show l.length - p = (l.length - (p + 1)) + 1 by omega]; simp [keyAll, h]
theorem k2_down (hp : p < l.length) (h : slope l p = 0) : k2 l p = buck l p :: k2 l (p + 1) := by
  unfold k2; rw [show l.length - p = (l.length - (p + 1)) + 1 by omega]; simp [keyAll, h]
theorem k2_end (hp : l.length ≤ p) : k2 l p = [] := by
  unfold k2; rw [show l.length - p = 0 by omega]; simp [keyAll]
theorem c1_up (h : slope l p = 1) : c1 l p = buck l p :: c1 l (p + 1) := by
  have a := slope_lt h
  unfold c1; rw [show l.length - p = (l.length - (p + 1)) + 1 by omega]; simp [pcUp, h]
theorem c1_start (hp : p < l.length) (h : slope l p = 0) : c1 l p = [buck l p] := by
  unfold c1; rw [show l.length - p = (l.length - (p + 1)) + 1 by omega]; simp [pcUp, h]
theorem c2_up (h : slope l p = 1) : c2 l p = c1 l p := by
  have a := slope_lt h
  unfold c1 c2; rw [show l.length - p = (l.length - (p + 1)) + 1 by omega]; simp [pcAll, h]
theorem c2_down (hp : p < l.length) (h : slope l p = 0) : c2 l p = buck l p :: c2 l (p + 1) := by
  unfold c2; rw [show l.length - p = (l.length - (p + 1)) + 1 by omega]; simp [pcAll, h]
theorem c2_end (hp : l.length ≤ p) : c2 l p = [] := by
  unfold c2; rw [show l.length - p = 0 by omega]; simp [pcAll]
theorem k1_head (hp : p < l.length) : ∃ t, k1 l p = buck l p :: t := by
  have a := slope_le l p
  by_cases h : slope l p = 1
  · exact ⟨_, k1_up h⟩
  · exact ⟨_, k1_start hp (by omega)⟩
theorem k2_head (hp : p < l.length) : ∃ t, k2 l p = buck l p :: t := by
  have a := slope_le l p
  by_cases h : slope l p = 1
  · rw [k2_up h]; exact k1_head hp
  · exact ⟨_, k2_down hp (by omega)⟩
theorem c1_head (hp : p < l.length) : ∃ t, c1 l p = buck l p :: t := by
  have a := slope_le l p
  by_cases h : slope l p = 1
  · exact ⟨_, c1_up h⟩
  · exact ⟨_, c1_start hp (by omega)⟩
theorem c2_head (hp : p < l.length) : ∃ t, c2 l p = buck l p :: t := by
  have a := slope_le l p
  by_cases h : slope l p = 1
  · rw [c2_up h]; exact c1_head hp
  · exact ⟨_, c2_down hp (by omega)⟩
end

/-- All starts, by rising places. -/
def isSt (l : List Nat) (p : Nat) : Bool := decide (0 < p) && decide (slope l p = 0) && decide (slope l (p - 1) = 1)
def starts (l : List Nat) : List Nat := (List.range l.length).filter (isSt l)
theorem isSt_iff {l : List Nat} {p : Nat} (hp : p < l.length) : isSt l p = true ↔ start l p := by
  unfold isSt start; simp [hp, and_assoc]
theorem mem_starts {l : List Nat} {p : Nat} : p ∈ starts l ↔ start l p := by
  unfold starts
  rw [List.mem_filter, List.mem_range]
  constructor
  · rintro ⟨a, b⟩; exact (isSt_iff a).1 b
  · intro h; exact ⟨h.1, (isSt_iff h.1).2 h⟩
theorem starts_asc (l : List Nat) : (starts l).Pairwise (· < ·) := List.Pairwise.filter _ List.pairwise_lt_range
theorem nodup_of_irr {R : Nat → Nat → Prop} (irr : ∀ x, ¬ R x x) {o : List Nat} (h : o.Pairwise R) : o.Nodup :=
  List.Pairwise.imp (S := fun a b => a ≠ b) (fun {a b} (hr : R a b) (e : a = b) => irr a (by rw [← e] at hr; exact hr)) h
theorem starts_nodup (l : List Nat) : (starts l).Nodup := nodup_of_irr (fun x h => Nat.lt_irrefl x h) (starts_asc l)
theorem starts_length {l : List Nat} (h : 0 < l.length) : (starts l).length < l.length := by
  have a : (0 :: starts l).Nodup := by
    rw [List.nodup_cons]
    exact ⟨fun c => by have := (mem_starts.1 c).2.1; omega, starts_nodup l⟩
  have b := a.length_le_of_subset (l₂ := List.range l.length) (fun x hx => by
    rcases List.mem_cons.1 hx with rfl | hx
    · exact List.mem_range.2 h
    · exact List.mem_range.2 (mem_starts.1 hx).1)
  simp only [List.length_cons, List.length_range] at b
  omega

/-- The keys are fit for both passes. -/
theorem good_key (l : List Nat) : Good l (starts l) (fun p q => k1 l p < k1 l q) (fun p q => k2 l p < k2 l q) where
  irr1 x := lt_irr _
  irr x := lt_irr _
  bk1 p q hp hq h := by
    obtain ⟨s, hs⟩ := k1_head hp
    obtain ⟨t, ht⟩ := k1_head hq
    rw [hs, ht, cons_lt]; exact .inl h
  bk p q hp hq h := by
    obtain ⟨s, hs⟩ := k2_head hp
    obtain ⟨t, ht⟩ := k2_head hq
    rw [hs, ht, cons_lt]; exact .inl h
  up p q hp hq hb h := by rw [k1_up hp, k1_up hq, cons_lt]; exact .inr ⟨hb, h⟩
  down p q hp hq sp sq hb h := by rw [k2_down (by omega) sp, k2_down (by omega) sq, cons_lt]; exact .inr ⟨hb, h⟩
  last p hp sp hb := by
    obtain ⟨t, ht⟩ := k2_head hp
    rw [k2_down (by omega) (slope_last (by omega)), k2_end (by omega), k2_down (by omega) sp, ht, cons_lt]
    exact .inr ⟨hb, nil_lt _ _⟩
  one p q hp hq h := by rw [k2_up hp, k2_up hq]; exact h
  mem p := mem_starts
  srt := by
    refine (starts_asc l).imp_of_mem ?_
    intro a b ha hb hab hk
    have sa := mem_starts.1 ha
    have sb := mem_starts.1 hb
    rw [k1_start sa.1 sa.2.2.1, k1_start sb.1 sb.2.2.1, cons_lt, cons_lt]
    exact .inr ⟨hk, .inl hab⟩

/-! ### What the keys say of pieces, and pieces of ends -/

theorem c1_of_k1 {l : List Nat} : ∀ (m p q : Nat), p + m = l.length → p < l.length → q < l.length → k1 l p < k1 l q → c1 l p < c1 l q ∨ c1 l p = c1 l q := by
  intro m
  induction m with
  | zero => intro p q hp hp' _ _; omega
  | succ m ih =>
    intro p q hp hp' hq h
    by_cases e : buck l p = buck l q
    · have sl := (buck_eq e).2
      have a := slope_le l p
      by_cases s : slope l p = 1
      · rw [k1_up s, k1_up (show slope l q = 1 by omega), cons_lt] at h
        rcases h with h | ⟨_, h⟩
        · omega
        · have hp1 := slope_lt s
          have hq1 := slope_lt (show slope l q = 1 by omega)
          rcases ih (p + 1) (q + 1) (by omega) hp1 hq1 h with c | c
          · left; rw [c1_up s, c1_up (show slope l q = 1 by omega), cons_lt]; exact .inr ⟨e, c⟩
          · right; rw [c1_up s, c1_up (show slope l q = 1 by omega), e, c]
      · right; rw [c1_start hp' (by omega), c1_start hq (by omega), e]
    · obtain ⟨s, hs⟩ := k1_head hp'
      obtain ⟨t, ht⟩ := k1_head hq
      obtain ⟨s', hs'⟩ := c1_head hp'
      obtain ⟨t', ht'⟩ := c1_head hq
      rw [hs, ht, cons_lt] at h
      left; rw [hs', ht', cons_lt]
      rcases h with h | ⟨h, _⟩
      · exact .inl h
      · exact absurd h e
theorem c2_of_k2 {l : List Nat} : ∀ (m p q : Nat), p + m = l.length → q ≤ l.length → k2 l p < k2 l q → c2 l p < c2 l q ∨ c2 l p = c2 l q := by
  intro m
  induction m with
  | zero =>
    intro p q hp hq h
    by_cases e : q = l.length
    · rw [k2_end (show l.length ≤ q by omega)] at h; exact absurd h (not_lt_nil _)
    · obtain ⟨t, ht⟩ := c2_head (show q < l.length by omega)
      left; rw [c2_end (by omega), ht]; exact nil_lt _ _
  | succ m ih =>
    intro p q hp hq h
    by_cases e0 : q = l.length
    · rw [k2_end (show l.length ≤ q by omega)] at h; exact absurd h (not_lt_nil _)
    · have hp' : p < l.length := by omega
      have hq' : q < l.length := by omega
      by_cases e : buck l p = buck l q
      · have sl := (buck_eq e).2
        have a := slope_le l p
        by_cases s : slope l p = 1
        · rw [k2_up s, k2_up (by omega)] at h
          rw [c2_up s, c2_up (by omega)]
          exact c1_of_k1 (l.length - p) p q (by omega) hp' hq' h
        · rw [k2_down hp' (by omega), k2_down hq' (by omega), cons_lt] at h
          rcases h with h | ⟨_, h⟩
          · omega
          · rcases ih (p + 1) (q + 1) (by omega) (by omega) h with c | c
            · left; rw [c2_down hp' (by omega), c2_down hq' (by omega), cons_lt]; exact .inr ⟨e, c⟩
            · right; rw [c2_down hp' (by omega), c2_down hq' (by omega), e, c]
      · obtain ⟨s, hs⟩ := k2_head hp'
        obtain ⟨t, ht⟩ := k2_head hq'
        obtain ⟨s', hs'⟩ := c2_head hp'
        obtain ⟨t', ht'⟩ := c2_head hq'
        rw [hs, ht, cons_lt] at h
        left; rw [hs', ht', cons_lt]
        rcases h with h | ⟨h, _⟩
        · exact .inl h
        · exact absurd h e

theorem suf_of_c1 {l : List Nat} : ∀ (m p q : Nat), p + m = l.length → p < l.length → q < l.length → c1 l p < c1 l q → suf l p q := by
  intro m
  induction m with
  | zero => intro p q hp hp' _ _; omega
  | succ m ih =>
    intro p q hp hp' hq h
    by_cases e : buck l p = buck l q
    · have sl := (buck_eq e).2
      have a := slope_le l p
      by_cases s : slope l p = 1
      · rw [c1_up s, c1_up (show slope l q = 1 by omega), cons_lt] at h
        rcases h with h | ⟨_, h⟩
        · omega
        · have hp1 := slope_lt s
          have hq1 := slope_lt (show slope l q = 1 by omega)
          exact (buck_step hp' hq e).2 (ih (p + 1) (q + 1) (by omega) hp1 hq1 h)
      · rw [c1_start hp' (by omega), c1_start hq (by omega), e] at h; exact absurd h (lt_irr _)
    · obtain ⟨s', hs'⟩ := c1_head hp'
      obtain ⟨t', ht'⟩ := c1_head hq
      rw [hs', ht', cons_lt] at h
      rcases h with h | ⟨h, _⟩
      · exact buck_lt hp' hq h
      · exact absurd h e
theorem suf_of_c2 {l : List Nat} : ∀ (m p q : Nat), p + m = l.length → q ≤ l.length → c2 l p < c2 l q → suf l p q := by
  intro m
  induction m with
  | zero =>
    intro p q hp hq h
    by_cases e : q = l.length
    · rw [c2_end (show l.length ≤ q by omega)] at h; exact absurd h (not_lt_nil _)
    · unfold suf; rw [drop_last (by omega), drop_num (show q < l.length by omega)]; exact nil_lt _ _
  | succ m ih =>
    intro p q hp hq h
    by_cases e0 : q = l.length
    · rw [c2_end (show l.length ≤ q by omega)] at h; exact absurd h (not_lt_nil _)
    · have hp' : p < l.length := by omega
      have hq' : q < l.length := by omega
      by_cases e : buck l p = buck l q
      · have sl := (buck_eq e).2
        have a := slope_le l p
        by_cases s : slope l p = 1
        · rw [c2_up s, c2_up (by omega)] at h
          exact suf_of_c1 (l.length - p) p q (by omega) hp' hq' h
        · rw [c2_down hp' (by omega), c2_down hq' (by omega), cons_lt] at h
          rcases h with h | ⟨_, h⟩
          · omega
          · exact (buck_step hp' hq' e).2 (ih (p + 1) (q + 1) (by omega) (by omega) h)
      · obtain ⟨s', hs'⟩ := c2_head hp'
        obtain ⟨t', ht'⟩ := c2_head hq'
        rw [hs', ht', cons_lt] at h
        rcases h with h | ⟨h, _⟩
        · exact buck_lt hp' hq' h
        · exact absurd h e

/-- Two places have the same piece: up to the next start, which is as far from both. -/
structure Piece (l : List Nat) (p q k : Nat) : Prop where
  pos : 0 < k
  s1 : start l (p + k)
  s2 : start l (q + k)
  no : ∀ j, 0 < j → j < k → ¬ start l (p + j) ∧ ¬ start l (q + j)
  eq : ∀ j, j ≤ k → p + j < l.length ∧ q + j < l.length ∧ buck l (p + j) = buck l (q + j)

theorem piece_up {l : List Nat} {p q k : Nat} (h : Piece l (p + 1) (q + 1) k) (e : buck l p = buck l q) (n1 : ¬ start l (p + 1)) (n2 : ¬ start l (q + 1)) : Piece l p q (k + 1) := by
  refine ⟨by omega, by have := h.s1; rwa [show p + 1 + k = p + (k + 1) by omega] at this, by have := h.s2; rwa [show q + 1 + k = q + (k + 1) by omega] at this, ?_, ?_⟩
  · intro j h0 hj
    by_cases c : j = 1
    · subst c; exact ⟨n1, n2⟩
    · have := h.no (j - 1) (by omega) (by omega)
      rwa [show p + 1 + (j - 1) = p + j by omega, show q + 1 + (j - 1) = q + j by omega] at this
  · intro j hj
    by_cases c : j = 0
    · subst c
      have := h.eq 0 (by omega)
      exact ⟨by omega, by omega, e⟩
    · have := h.eq (j - 1) (by omega)
      rwa [show p + 1 + (j - 1) = p + j by omega, show q + 1 + (j - 1) = q + j by omega] at this
theorem piece_one {l : List Nat} {p q : Nat} (s1 : slope l p = 1) (s2 : slope l q = 1) (e : buck l p = buck l q) (e' : buck l (p + 1) = buck l (q + 1)) (s : slope l (p + 1) = 0) : Piece l p q 1 := by
  have a := slope_lt s1
  have b := slope_lt s2
  have c := (buck_eq e').2
  refine ⟨by omega, ⟨a, by omega, s, by simpa using s1⟩, ⟨b, by omega, by omega, by simpa using s2⟩, fun j _ _ => by omega, ?_⟩
  intro j hj
  by_cases d : j = 0
  · subst d; exact ⟨by omega, by omega, e⟩
  · have : j = 1 := by omega
    subst this; exact ⟨a, b, e'⟩
theorem piece_of_c1 {l : List Nat} : ∀ (m p q : Nat), p + m = l.length → slope l p = 1 → q < l.length → c1 l p = c1 l q → ∃ k, Piece l p q k := by
  intro m
  induction m with
  | zero => intro p q hp s _ _; have := slope_lt s; omega
  | succ m ih =>
    intro p q hp s hq h
    have hp1 := slope_lt s
    have e : buck l p = buck l q := by
      obtain ⟨x, hx⟩ := c1_head (show p < l.length by omega)
      obtain ⟨y, hy⟩ := c1_head hq
      rw [hx, hy] at h; exact (List.cons.inj h).1
    have sq : slope l q = 1 := by have := (buck_eq e).2; omega
    have hq1 := slope_lt sq
    rw [c1_up s, c1_up sq] at h
    have h' := (List.cons.inj h).2
    have e' : buck l (p + 1) = buck l (q + 1) := by
      obtain ⟨x, hx⟩ := c1_head hp1
      obtain ⟨y, hy⟩ := c1_head hq1
      rw [hx, hy] at h'; exact (List.cons.inj h').1
    have a := slope_le l (p + 1)
    by_cases s' : slope l (p + 1) = 1
    · obtain ⟨k, hk⟩ := ih (p + 1) (q + 1) (by omega) s' hq1 h'
      have := (buck_eq e').2
      exact ⟨k + 1, piece_up hk e (fun c => by have := c.2.2.1; omega) (fun c => by have := c.2.2.1; omega)⟩
    · exact ⟨1, piece_one s sq e e' (by omega)⟩
theorem piece_of_c2 {l : List Nat} : ∀ (m p q : Nat), p + m = l.length → p < l.length → slope l p = 0 → q < l.length → p ≠ q → c2 l p = c2 l q → ∃ k, Piece l p q k := by
  intro m
  induction m with
  | zero => intro p q hp hp' _ _ _ _; omega
  | succ m ih =>
    intro p q hp hp' s hq hne h
    have e : buck l p = buck l q := by
      obtain ⟨x, hx⟩ := c2_head hp'
      obtain ⟨y, hy⟩ := c2_head hq
      rw [hx, hy] at h; exact (List.cons.inj h).1
    have sq : slope l q = 0 := by have := (buck_eq e).2; omega
    rw [c2_down hp' s, c2_down hq sq] at h
    have h' := (List.cons.inj h).2
    have n1 : ¬ start l (p + 1) := fun c => by have := c.2.2.2; simp at this; omega
    have n2 : ¬ start l (q + 1) := fun c => by have := c.2.2.2; simp at this; omega
    by_cases c : p + 1 = l.length
    · rw [c2_end (show l.length ≤ p + 1 by omega)] at h'
      by_cases d : q + 1 = l.length
      · omega
      · obtain ⟨y, hy⟩ := c2_head (show q + 1 < l.length by omega)
        rw [hy] at h'; cases h'
    · by_cases d : q + 1 = l.length
      · obtain ⟨y, hy⟩ := c2_head (show p + 1 < l.length by omega)
        rw [c2_end (show l.length ≤ q + 1 by omega), hy] at h'; cases h'
      · have hp1 : p + 1 < l.length := by omega
        have hq1 : q + 1 < l.length := by omega
        have e' : buck l (p + 1) = buck l (q + 1) := by
          obtain ⟨x, hx⟩ := c2_head hp1
          obtain ⟨y, hy⟩ := c2_head hq1
          rw [hx, hy] at h'; exact (List.cons.inj h').1
        have sl := (buck_eq e').2
        have a := slope_le l (p + 1)
        by_cases s' : slope l (p + 1) = 1
        · rw [c2_up s', c2_up (by omega)] at h'
          obtain ⟨k, hk⟩ := piece_of_c1 (l.length - (p + 1)) (p + 1) (q + 1) (by omega) s' hq1 h'
          exact ⟨k + 1, piece_up hk e n1 n2⟩
        · obtain ⟨k, hk⟩ := ih (p + 1) (q + 1) (by omega) hp1 (by omega) hq1 (by omega) h'
          exact ⟨k + 1, piece_up hk e n1 n2⟩

/-- And back: steps that are the same up to a start make the same piece. -/
theorem c1_of_eq {l : List Nat} : ∀ (k p q : Nat), slope l p = 1 → (∀ j, j ≤ k → p + j < l.length ∧ q + j < l.length ∧ buck l (p + j) = buck l (q + j)) → 0 < k → start l (p + k) → c1 l p = c1 l q := by
  intro k
  induction k with
  | zero => intro p q _ _ h _; omega
  | succ k ih =>
    intro p q s h _ hs
    have h0 := h 0 (by omega)
    have h1 := h 1 (by omega)
    simp only [Nat.add_zero] at h0
    have sq : slope l q = 1 := by have := (buck_eq h0.2.2).2; omega
    rw [c1_up s, c1_up sq, h0.2.2]
    have a := slope_le l (p + 1)
    have sl := (buck_eq h1.2.2).2
    by_cases s' : slope l (p + 1) = 1
    · have hk : 0 < k := by
        by_cases c : k = 0
        · subst c; have := hs.2.2.1; simp at this; omega
        · omega
      rw [ih (p + 1) (q + 1) s' (fun j hj => by have := h (j + 1) (by omega); rwa [show p + (j + 1) = p + 1 + j by omega, show q + (j + 1) = q + 1 + j by omega] at this) hk (by rwa [show p + 1 + k = p + (k + 1) by omega])]
    · rw [c1_start h1.1 (by omega), c1_start h1.2.1 (by omega), h1.2.2]
theorem c2_of_eq {l : List Nat} : ∀ (k p q : Nat), slope l p = 0 → (∀ j, j ≤ k → p + j < l.length ∧ q + j < l.length ∧ buck l (p + j) = buck l (q + j)) → 0 < k → start l (p + k) → c2 l p = c2 l q := by
  intro k
  induction k with
  | zero => intro p q _ _ h _; omega
  | succ k ih =>
    intro p q s h _ hs
    have h0 := h 0 (by omega)
    have h1 := h 1 (by omega)
    simp only [Nat.add_zero] at h0
    have sq : slope l q = 0 := by have := (buck_eq h0.2.2).2; omega
    rw [c2_down h0.1 s, c2_down h0.2.1 sq, h0.2.2]
    have a := slope_le l (p + 1)
    have sl := (buck_eq h1.2.2).2
    have hk : 0 < k := by
      by_cases c : k = 0
      · subst c; have := hs.2.2.2; simp at this; omega
      · omega
    have h' : ∀ j, j ≤ k → p + 1 + j < l.length ∧ q + 1 + j < l.length ∧ buck l (p + 1 + j) = buck l (q + 1 + j) := fun j hj => by
      have := h (j + 1) (by omega)
      rwa [show p + (j + 1) = p + 1 + j by omega, show q + (j + 1) = q + 1 + j by omega] at this
    have hs' : start l (p + 1 + k) := by rwa [show p + 1 + k = p + (k + 1) by omega]
    by_cases s' : slope l (p + 1) = 1
    · rw [c2_up s', c2_up (by omega), c1_of_eq k (p + 1) (q + 1) s' h' hk hs']
    · rw [ih (p + 1) (q + 1) (by omega) h' hk hs']

/-- Is the piece at two places the same? -/
def same (l : List Nat) (p q : Nat) : Bool := decide (c2 l p = c2 l q)

theorem suf_add {l : List Nat} {p q : Nat} : ∀ (k : Nat), (∀ j, j < k → p + j < l.length ∧ q + j < l.length ∧ buck l (p + j) = buck l (q + j)) → (suf l p q ↔ suf l (p + k) (q + k)) := by
  intro k
  induction k with
  | zero => intro _; simp
  | succ k ih =>
    intro h
    have a := h k (by omega)
    rw [ih (fun j hj => h j (by omega))]
    exact buck_step a.1 a.2.1 a.2.2

theorem next_start {l : List Nat} {i k : Nat} (hi : i < (starts l).length) (hk : 0 < k) (hs : start l (num (starts l) i + k)) (no : ∀ j, 0 < j → j < k → ¬ start l (num (starts l) i + j)) :
    i + 1 < (starts l).length ∧ num (starts l) (i + 1) = num (starts l) i + k := by
  obtain ⟨a1, a2⟩ := idx_of_mem (mem_starts.2 hs)
  generalize hj : (starts l).idxOf (num (starts l) i + k) = j at a1 a2
  have asc : ∀ x y, x < y → (hx : y < (starts l).length) → num (starts l) x < num (starts l) y := by
    intro x y hxy hy
    have := List.pairwise_iff_getElem.1 (starts_asc l) x y (by omega) hy hxy
    rwa [← num_eq (by omega), ← num_eq hy] at this
  have hij : i < j := by
    by_cases c : i < j
    · exact c
    · by_cases d : j = i
      · subst d; omega
      · have := asc j i (by omega) hi; omega
  refine ⟨by omega, ?_⟩
  have b := asc i (i + 1) (by omega) (by omega)
  by_cases c : j = i + 1
  · rw [← c]; exact a2
  · have d := asc (i + 1) j (by omega) a1
    rw [a2] at d
    have e := mem_starts.1 (num_mem (show i + 1 < (starts l).length by omega))
    exact absurd (by rwa [show num (starts l) i + (num (starts l) (i + 1) - num (starts l) i) = num (starts l) (i + 1) by omega]) (no (num (starts l) (i + 1) - num (starts l) i) (by omega) (by omega))

/-- The starts, sorted by pieces. -/
theorem sorted_pieces {l o : List Nat} (ho : o.Pairwise (fun p q => k2 l p < k2 l q)) (hm : ∀ p, p ∈ o ↔ p < l.length) :
    Sorted (c2 l) (same l) (o.filter (isSt l)) ∧ ∀ p, p ∈ o.filter (isSt l) ↔ start l p := by
  have hp := ho.filter (isSt l)
  have nd := nodup_of_irr (fun x => lt_irr _) hp
  have mem : ∀ p, p ∈ o.filter (isSt l) ↔ start l p := by
    intro p
    rw [List.mem_filter, hm]
    constructor
    · rintro ⟨a, b⟩; exact (isSt_iff a).1 b
    · intro h; exact ⟨h.1, (isSt_iff h.1).2 h⟩
  refine ⟨⟨nd, ?_, fun i hi => by simp [same]⟩, mem⟩
  intro i j hij hj
  have a := List.pairwise_iff_getElem.1 hp i j (by omega) hj hij
  rw [← num_eq (by omega), ← num_eq hj] at a
  have b := (mem _).1 (num_mem (show i < (o.filter (isSt l)).length by omega))
  have c := (mem _).1 (num_mem hj)
  exact c2_of_k2 (l.length - num (o.filter (isSt l)) i) _ _ (by have := b.1; omega) (by have := c.1; omega) a

/-- The smaller row: the names of the starts, by rising places: its ends are ordered as the starts' are. -/
def shorter (l s : List Nat) : List Nat := (starts l).map (nameOf (same l) s)
theorem shorter_length (l s : List Nat) : (shorter l s).length = (starts l).length := by simp [shorter]
theorem shorter_num {l s : List Nat} {i : Nat} (h : i < (starts l).length) : num (shorter l s) i = nameOf (same l) s (num (starts l) i) := by
  simp [num, shorter, List.getD, h]
theorem shorter_suf {l s : List Nat} (hs : Sorted (c2 l) (same l) s) (hm : ∀ p, p ∈ s ↔ start l p) :
    ∀ (m i j : Nat), i + m = (starts l).length → i < (starts l).length → j < (starts l).length → i ≠ j →
      (suf (shorter l s) i j ↔ suf l (num (starts l) i) (num (starts l) j)) := by
  intro m
  induction m with
  | zero => intro i j h1 h2 _ _; omega
  | succ m ih =>
    intro i j h1 hi hj hne
    have si := mem_starts.1 (num_mem hi)
    have sj := mem_starts.1 (num_mem hj)
    have ne : num (starts l) i ≠ num (starts l) j := by
      intro e
      have a := idx_num (starts_nodup l) hi
      have b := idx_num (starts_nodup l) hj
      rw [e, b] at a; exact hne a.symm
    have xi : (shorter l s).drop i = nameOf (same l) s (num (starts l) i) :: (shorter l s).drop (i + 1) := by
      rw [drop_num (by rw [shorter_length]; exact hi), shorter_num hi]
    have xj : (shorter l s).drop j = nameOf (same l) s (num (starts l) j) :: (shorter l s).drop (j + 1) := by
      rw [drop_num (by rw [shorter_length]; exact hj), shorter_num hj]
    have le := hs.name_lt ((hm _).2 si) ((hm _).2 sj)
    have ge := hs.name_lt ((hm _).2 sj) ((hm _).2 si)
    have eq := hs.name_eq ((hm _).2 si) ((hm _).2 sj)
    unfold suf at *
    rw [xi, xj, cons_lt]
    rcases Nat.lt_trichotomy (nameOf (same l) s (num (starts l) i)) (nameOf (same l) s (num (starts l) j)) with c | c | c
    · have := suf_of_c2 (l.length - num (starts l) i) _ _ (by have := si.1; omega) (by have := sj.1; omega) (le.1 c)
      exact ⟨fun _ => this, fun _ => .inl c⟩
    · obtain ⟨k, hk⟩ := piece_of_c2 (l.length - num (starts l) i) _ _ (by have := si.1; omega) si.1 si.2.2.1 sj.1 ne (eq.1 c)
      obtain ⟨a1, a2⟩ := next_start hi hk.pos hk.s1 (fun j h0 h1 => (hk.no j h0 h1).1)
      obtain ⟨b1, b2⟩ := next_start hj hk.pos hk.s2 (fun j h0 h1 => (hk.no j h0 h1).2)
      have := ih (i + 1) (j + 1) (by omega) a1 b1 (by omega)
      have sa := suf_add (l := l) (p := num (starts l) i) (q := num (starts l) j) k (fun j hj => hk.eq j (by omega))
      unfold suf at sa
      rw [sa, ← a2, ← b2, ← this]
      constructor
      · rintro (d | ⟨_, d⟩)
        · omega
        · exact d
      · intro d; exact .inr ⟨c, d⟩
    · have := suf_of_c2 (l.length - num (starts l) j) _ _ (by have := sj.1; omega) (by have := si.1; omega) (ge.1 c)
      unfold suf at this
      constructor
      · rintro (d | ⟨d, _⟩) <;> omega
      · intro d; exact absurd d (lt_as this)

/-- The places of all ends, in the ends' order. -/
def IsSA (l o : List Nat) : Prop := o.Pairwise (suf l) ∧ ∀ p, p ∈ o ↔ p < l.length

theorem IsSA.nodup {l o : List Nat} (h : IsSA l o) : o.Nodup := nodup_of_irr (fun _ => lt_irr _) h.1
theorem IsSA.length {l o : List Nat} (h : IsSA l o) : o.length = l.length := by
  have a := h.nodup.length_le_of_subset (l₂ := List.range l.length) (fun x hx => List.mem_range.2 ((h.2 x).1 hx))
  have b := (List.nodup_range (n := l.length)).length_le_of_subset (l₂ := o) (fun x hx => (h.2 x).2 (List.mem_range.1 hx))
  simp only [List.length_range] at a b
  omega
/-- Two lists that are sorted strictly and hold the same are one. -/
theorem sorted_unique {R : Nat → Nat → Prop} (irr : ∀ x, ¬ R x x) (as : ∀ x y, R x y → ¬ R y x) : ∀ (a b : List Nat), a.Pairwise R → b.Pairwise R → (∀ x, x ∈ a ↔ x ∈ b) → a = b
  | [], [], _, _, _ => rfl
  | [], y :: b, _, _, h => by have := (h y).2 (by simp); simp at this
  | x :: a, [], _, _, h => by have := (h x).1 (by simp); simp at this
  | x :: a, y :: b, ha, hb, h => by
    rw [List.pairwise_cons] at ha hb
    have e : x = y := by
      have h1 := (h x).1 (by simp)
      have h2 := (h y).2 (by simp)
      rcases List.mem_cons.1 h1 with c | c
      · exact c
      · rcases List.mem_cons.1 h2 with d | d
        · exact d.symm
        · exact absurd (ha.1 y d) (as _ _ (hb.1 x c))
    subst e
    refine congrArg (x :: ·) (sorted_unique irr as a b ha.2 hb.2 fun z => ?_)
    have hz := h z
    rw [List.mem_cons, List.mem_cons] at hz
    constructor
    · intro c
      rcases hz.1 (.inr c) with d | d
      · subst d; exact absurd (ha.1 z c) (irr z)
      · exact d
    · intro c
      rcases hz.2 (.inr c) with d | d
      · subst d; exact absurd (hb.1 z c) (irr z)
      · exact d
theorem IsSA.unique {l a b : List Nat} (ha : IsSA l a) (hb : IsSA l b) : a = b :=
  sorted_unique (R := suf l) (fun _ => lt_irr _) (fun _ _ h => lt_as h) a b ha.1 hb.1 (fun x => by rw [ha.2, hb.2])

/-- The starts sorted, where each piece has a name of its own. -/
theorem starts_by_pieces {l s : List Nat} (hs : Sorted (c2 l) (same l) s) (hm : ∀ p, p ∈ s ↔ start l p) (hk : kindsOf (same l) s = s.length) : s.Pairwise (suf l) := by
  refine (hs.strict hk).imp_of_mem ?_
  intro a b ha hb h
  have := ((hm a).1 ha).1
  have := ((hm b).1 hb).1
  exact suf_of_c2 (l.length - a) a b (by omega) (by omega) h
/-- The starts sorted by the ends of the smaller row. -/
theorem starts_by_row {l s o : List Nat} (hs : Sorted (c2 l) (same l) s) (hm : ∀ p, p ∈ s ↔ start l p) (ho : IsSA (shorter l s) o) :
    (o.map (num (starts l))).Pairwise (suf l) ∧ ∀ p, p ∈ o.map (num (starts l)) ↔ start l p := by
  have hl := shorter_length l s
  constructor
  · rw [List.pairwise_map]
    refine (List.Pairwise.and ho.1 ho.nodup).imp_of_mem ?_
    intro a b ha hb h
    have a1 := (ho.2 a).1 ha
    have b1 := (ho.2 b).1 hb
    rw [hl] at a1 b1
    exact (shorter_suf hs hm ((starts l).length - a) a b (by omega) a1 b1 h.2).1 h.1
  · intro p
    rw [List.mem_map]
    constructor
    · rintro ⟨i, hi, rfl⟩
      have := (ho.2 i).1 hi
      rw [hl] at this
      exact mem_starts.1 (num_mem this)
    · intro h
      obtain ⟨a1, a2⟩ := idx_of_mem (mem_starts.2 h)
      exact ⟨_, (ho.2 _).2 (by rw [hl]; exact a1), a2⟩
theorem sorted_length {l s : List Nat} (nd : s.Nodup) (hm : ∀ p, p ∈ s ↔ start l p) : s.length = (starts l).length := by
  have a := nd.length_le_of_subset (l₂ := starts l) (fun x hx => mem_starts.2 ((hm x).1 hx))
  have b := (starts_nodup l).length_le_of_subset (l₂ := s) (fun x hx => (hm x).2 (mem_starts.1 hx))
  omega
end Sedge
