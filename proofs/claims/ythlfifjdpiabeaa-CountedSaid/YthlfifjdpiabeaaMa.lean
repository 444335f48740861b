/- Plain mathematics: the order of the ends of a list of numbers, slopes, and passes that put places into buckets. -/
namespace Sedge

theorem lt_irr (a : List Nat) : ¬ a < a := List.lt_irrefl a
theorem lt_tr {a b c : List Nat} (h : a < b) (k : b < c) : a < c := List.lt_trans h k
theorem lt_as {a b : List Nat} (h : a < b) : ¬ b < a := List.lt_asymm h
theorem lt_tri (a b : List Nat) : a < b ∨ a = b ∨ b < a := by
  by_cases h : a < b
  · exact .inl h
  · by_cases k : b < a
    · exact .inr (.inr k)
    · exact .inr (.inl (List.le_antisymm (show ¬ b < a from k) (show ¬ a < b from h)))
theorem cons_lt {a b : Nat} {x y : List Nat} : a :: x < b :: y ↔ a < b ∨ a = b ∧ x < y := List.cons_lt_cons_iff
theorem nil_lt (a : Nat) (x : List Nat) : [] < a :: x := List.nil_lt_cons a x
theorem not_lt_nil (x : List Nat) : ¬ x < [] := List.not_lt_nil x

/-- The number at a place. -/
def num (l : List Nat) (p : Nat) : Nat := l.getD p 0
theorem drop_num {l : List Nat} {p : Nat} (h : p < l.length) : l.drop p = num l p :: l.drop (p + 1) := by
  rw [List.drop_eq_getElem_cons h]
  simp [num, List.getD, h]
theorem drop_last {l : List Nat} {p : Nat} (h : l.length ≤ p) : l.drop p = [] := List.drop_eq_nil_of_le h

/-- Does the end at p stand ahead of the end at the next place? -/
def rises (l : List Nat) (p : Nat) : Bool := decide (l.drop p < l.drop (p + 1))
def slope (l : List Nat) (p : Nat) : Nat := if rises l p then 1 else 0
def buck (l : List Nat) (p : Nat) : Nat := num l p * 2 + slope l p

theorem slope_le (l : List Nat) (p : Nat) : slope l p ≤ 1 := by unfold slope; split <;> omega
theorem slope_zero {l : List Nat} {p : Nat} (h : p < l.length) : slope l p = 0 ↔ l.drop (p + 1) < l.drop p := by
  unfold slope rises
  constructor
  · intro k
    have k' : ¬ l.drop p < l.drop (p + 1) := by intro c; simp [c] at k
    rcases lt_tri (l.drop p) (l.drop (p + 1)) with c | c | c
    · exact absurd c k'
    · have := congrArg List.length c; simp at this; omega
    · exact c
  · intro k; simp [lt_as k]
theorem slope_one {l : List Nat} {p : Nat} : slope l p = 1 ↔ l.drop p < l.drop (p + 1) := by
  unfold slope rises
  constructor
  · intro k; by_cases c : l.drop p < l.drop (p + 1)
    · exact c
    · simp [c] at k
  · intro k; simp [k]
theorem slope_last {l : List Nat} {p : Nat} (h : l.length ≤ p + 1) : slope l p = 0 := by
  unfold slope rises
  rw [drop_last h]
  simp
theorem slope_lt {l : List Nat} {p : Nat} (h : slope l p = 1) : p + 1 < l.length := by
  by_cases c : p + 1 < l.length
  · exact c
  · rw [slope_last (by omega)] at h; omega
theorem slope_up {l : List Nat} {p : Nat} (h : p + 1 < l.length) (k : num l p < num l (p + 1)) : slope l p = 1 := by
  rw [slope_one, drop_num (by omega : p < l.length), drop_num h, cons_lt]; exact .inl k
theorem slope_eq {l : List Nat} {p : Nat} (h : p + 1 < l.length) (k : num l p = num l (p + 1)) : slope l p = slope l (p + 1) := by
  have a : (l.drop p < l.drop (p + 1)) ↔ (l.drop (p + 1) < l.drop (p + 2)) := by
    conv => lhs; rw [drop_num (by omega : p < l.length), drop_num h, cons_lt]
    constructor
    · rintro (c | ⟨_, c⟩)
      · omega
      · rw [drop_num h]; exact c
    · intro c; rw [drop_num h] at c; exact .inr ⟨k, c⟩
  unfold slope rises
  simp [a]
theorem slope_down {l : List Nat} {p : Nat} (h : p + 1 < l.length) (k : num l (p + 1) < num l p) : slope l p = 0 := by
  rw [slope_zero (by omega), drop_num (by omega : p < l.length), drop_num h, cons_lt]; exact .inl k

/-- Of two ends with the same first number the one that falls is the lesser. -/
theorem falls_aux (c : Nat) : ∀ (X Y : List Nat), X < c :: X → c :: Y < Y → X < Y
  | [], [], _, k => absurd k (not_lt_nil _)
  | [], y :: Y, _, _ => nil_lt _ _
  | x :: X, [], _, k => absurd k (not_lt_nil _)
  | x :: X, y :: Y, h, k => by
    rw [cons_lt] at h k ⊢
    rcases h with h | ⟨h, h'⟩
    · rcases k with k | ⟨k, _⟩ <;> exact .inl (by omega)
    · rcases k with k | ⟨k, k'⟩
      · exact .inl (by omega)
      · subst h; subst k
        exact .inr ⟨rfl, falls_aux x X Y h' k'⟩

theorem buck_lt {l : List Nat} {p q : Nat} (hp : p < l.length) (hq : q < l.length) (h : buck l p < buck l q) : l.drop p < l.drop q := by
  have a := slope_le l p
  have b := slope_le l q
  unfold buck at h
  by_cases e : num l p < num l q
  · rw [drop_num hp, drop_num hq, cons_lt]; exact .inl e
  · have e' : num l p = num l q := by omega
    have s0 : slope l p = 0 := by omega
    have s1 : slope l q = 1 := by omega
    rw [slope_zero hp, drop_num hp] at s0
    rw [slope_one, drop_num hq] at s1
    rw [drop_num hp, drop_num hq, cons_lt]
    exact .inr ⟨e', falls_aux (num l p) _ _ s0 (by rw [e']; exact s1)⟩
theorem buck_eq {l : List Nat} {p q : Nat} (h : buck l p = buck l q) : num l p = num l q ∧ slope l p = slope l q := by
  have a := slope_le l p
  have b := slope_le l q
  unfold buck at h; omega
theorem buck_step {l : List Nat} {p q : Nat} (hp : p < l.length) (hq : q < l.length) (h : buck l p = buck l q) : l.drop p < l.drop q ↔ l.drop (p + 1) < l.drop (q + 1) := by
  rw [drop_num hp, drop_num hq, cons_lt, (buck_eq h).1]
  constructor
  · rintro (c | ⟨_, c⟩)
    · omega
    · exact c
  · intro c; exact .inr ⟨rfl, c⟩
theorem buck_rise {l : List Nat} {p : Nat} (h : slope l p = 1) : buck l p ≤ buck l (p + 1) := by
  have hp := slope_lt h
  rw [slope_one] at h
  by_cases c : buck l p ≤ buck l (p + 1)
  · exact c
  · exact absurd h (lt_as (buck_lt hp (by omega) (by omega)))
theorem buck_fall {l : List Nat} {p : Nat} (hp : p + 1 < l.length) (h : slope l p = 0) : buck l (p + 1) ≤ buck l p := by
  rw [slope_zero (by omega)] at h
  by_cases c : buck l (p + 1) ≤ buck l p
  · exact c
  · exact absurd h (lt_as (buck_lt (by omega) hp (by omega)))

/-- Ends begin to fall at p. -/
def start (l : List Nat) (p : Nat) : Prop := p < l.length ∧ 0 < p ∧ slope l p = 0 ∧ slope l (p - 1) = 1

/-! ### A pass through buckets -/

/-- What a pass leans on: bk: a place's bucket; D: the places that it puts in; seed: those that lie there; R: what is met ahead of what; dn c b: bucket c is done when b is gone through. -/
structure Pass (n : Nat) (bk : Nat → Nat) (D seed : Nat → Prop) (R : Nat → Nat → Prop) (dn : Nat → Nat → Prop) : Prop where
  irr : ∀ x, ¬ R x x
  step : ∀ p q, D p → D q → bk p = bk q → R (p + 1) (q + 1) → R p q
  first : ∀ s p, seed s → D p → bk s = bk p → R s p
  disj : ∀ p, seed p → ¬ D p
  ltD : ∀ p, D p → p + 1 < n
  ltS : ∀ p, seed p → p < n
  up : ∀ p, D p → seed (p + 1) ∨ D (p + 1)
  bkR : ∀ x y, x < n → y < n → dn (bk x) (bk y) → R x y
  ndn : ∀ p, D p → ¬ dn (bk p) (bk (p + 1))
  dnb : ∀ b, ¬ dn b b

def Proc (bk : Nat → Nat) (dn : Nat → Nat → Prop) (f : Nat → List Nat) (b i q : Nat) : Prop :=
  q ∈ f (bk q) ∧ (dn (bk q) b ∨ (bk q = b ∧ q ∈ (f b).take i))

structure Inv (n : Nat) (bk : Nat → Nat) (D seed : Nat → Prop) (R : Nat → Nat → Prop) (dn : Nat → Nat → Prop) (f : Nat → List Nat) (b i : Nat) : Prop where
  mem : ∀ c, ∀ p ∈ f c, p < n ∧ bk p = c
  pw : ∀ c, (f c).Pairwise R
  iff : ∀ p, p ∈ f (bk p) ↔ seed p ∨ (D p ∧ Proc bk dn f b i (p + 1))

def push (f : Nat → List Nat) (c p : Nat) : Nat → List Nat := fun c' => if c' = c then f c' ++ [p] else f c'
theorem push_same (f : Nat → List Nat) (c p : Nat) : push f c p c = f c ++ [p] := by simp [push]
theorem push_other (f : Nat → List Nat) {c c' : Nat} (p : Nat) (h : c' ≠ c) : push f c p c' = f c' := by simp [push, h]
theorem mem_push {f : Nat → List Nat} {c p c' x : Nat} : x ∈ push f c p c' ↔ x ∈ f c' ∨ (c' = c ∧ x = p) := by
  unfold push
  split
  · simp_all
  · simp_all

section
variable {n : Nat} {bk : Nat → Nat} {D seed : Nat → Prop} {R : Nat → Nat → Prop} {dn : Nat → Nat → Prop}

theorem pw_not_take {l : List Nat} {i : Nat} (irr : ∀ x, ¬ R x x) (h : l.Pairwise R) (hi : i < l.length) : l[i] ∉ l.take i := by
  intro c
  obtain ⟨j, hj, e⟩ := List.getElem_of_mem c
  have hj' : j < i := by simp at hj; omega
  rw [List.getElem_take] at e
  have := List.pairwise_iff_getElem.1 h j i (by omega) hi hj'
  rw [e] at this
  exact irr _ this

theorem Inv.ahead (P : Pass n bk D seed R dn) {f : Nat → List Nat} {b i : Nat} (h : Inv n bk D seed R dn f b i) (hi : i < (f b).length) {x : Nat} (hx : Proc bk dn f b i x) : R x (f b)[i] := by
  have hm := h.mem b (f b)[i] (List.getElem_mem _)
  obtain ⟨hx0, hx | ⟨e, hx⟩⟩ := hx
  · exact P.bkR _ _ (h.mem _ _ hx0).1 hm.1 (by rw [hm.2]; exact hx)
  · obtain ⟨j, hj, e'⟩ := List.getElem_of_mem hx
    have hj' : j < i := by simp at hj; omega
    rw [List.getElem_take] at e'
    have := List.pairwise_iff_getElem.1 (h.pw b) j i (by omega) hi hj'
    rwa [e'] at this

theorem Inv.fresh (P : Pass n bk D seed R dn) {f : Nat → List Nat} {b i : Nat} (h : Inv n bk D seed R dn f b i) (hi : i < (f b).length) {p : Nat} (hp : (f b)[i] = p + 1) (hD : D p) : p ∉ f (bk p) := by
  intro c
  rw [h.iff p] at c
  rcases c with c | ⟨_, c⟩
  · exact P.disj _ c hD
  · have := h.ahead P hi c
    rw [hp] at this
    exact P.irr _ this

theorem Inv.push (P : Pass n bk D seed R dn) {f : Nat → List Nat} {b i : Nat} (h : Inv n bk D seed R dn f b i) (hi : i < (f b).length) {p : Nat} (hp : (f b)[i] = p + 1) (hD : D p) :
    Inv n bk D seed R dn (push f (bk p) p) b (i + 1) := by
  have hfr := h.fresh P hi hp hD
  have hq := h.mem b (f b)[i] (List.getElem_mem _)
  have hbq : bk (p + 1) = b := by rw [← hp]; exact hq.2
  have hnd : ¬ dn (bk p) b := by have := P.ndn p hD; rwa [hbq] at this
  have htake : (Sedge.push f (bk p) p b).take (i + 1) = (f b).take (i + 1) := by
    unfold Sedge.push
    split
    · rw [List.take_append_of_le_length (by omega)]
    · rfl
  have hproc : ∀ x, Proc bk dn (Sedge.push f (bk p) p) b (i + 1) x ↔ Proc bk dn f b i x ∨ x = p + 1 := by
    intro x
    unfold Proc
    rw [mem_push, htake, List.take_succ_eq_append_getElem hi, hp]
    constructor
    · rintro ⟨a | ⟨a, rfl⟩, c | ⟨c, c'⟩⟩
      · exact .inl ⟨a, .inl c⟩
      · rw [List.mem_append] at c'
        rcases c' with c' | c'
        · exact .inl ⟨a, .inr ⟨c, c'⟩⟩
        · exact .inr (by simpa using c')
      · exact absurd c hnd
      · rw [List.mem_append] at c'
        rcases c' with c' | c'
        · exact absurd (by rw [c]; exact List.mem_of_mem_take c') hfr
        · simp at c'
    · rintro (⟨a, c | ⟨c, c'⟩⟩ | rfl)
      · exact ⟨.inl a, .inl c⟩
      · exact ⟨.inl a, .inr ⟨c, List.mem_append_left _ c'⟩⟩
      · refine ⟨.inl ?_, .inr ⟨hbq, by simp⟩⟩
        rw [hbq, ← hp]; exact List.getElem_mem _
  refine ⟨?_, ?_, ?_⟩
  · intro c x hx
    rw [mem_push] at hx
    rcases hx with hx | ⟨rfl, rfl⟩
    · exact h.mem c x hx
    · exact ⟨by have := P.ltD _ hD; omega, rfl⟩
  · intro c
    unfold Sedge.push
    split
    · rename_i e
      rw [List.pairwise_append]
      refine ⟨h.pw c, by simp, ?_⟩
      intro y hy x hx
      have hx' : x = p := by simpa using hx
      subst hx'
      have hby := (h.mem c y hy).2
      have hy' : y ∈ f (bk y) := by rw [hby]; exact hy
      rw [h.iff y] at hy'
      rcases hy' with s | ⟨d, pr⟩
      · exact P.first y x s hD (by omega)
      · exact P.step y x d hD (by omega) (by have := h.ahead P hi pr; rwa [hp] at this)
    · exact h.pw c
  · intro x
    rw [mem_push, hproc, h.iff x]
    constructor
    · rintro ((s | ⟨d, pr⟩) | ⟨_, rfl⟩)
      · exact .inl s
      · exact .inr ⟨d, .inl pr⟩
      · exact .inr ⟨hD, .inr rfl⟩
    · rintro (s | ⟨d, pr | e⟩)
      · exact .inl (.inl s)
      · exact .inl (.inr ⟨d, pr⟩)
      · have : x = p := by omega
        subst this
        exact .inr ⟨rfl, rfl⟩

theorem Inv.skip {f : Nat → List Nat} {b i : Nat} (h : Inv n bk D seed R dn f b i) (hi : i < (f b).length) (hp : ∀ p, (f b)[i] = p + 1 → ¬ D p) :
    Inv n bk D seed R dn f b (i + 1) := by
  have hq := h.mem b (f b)[i] (List.getElem_mem _)
  refine ⟨h.mem, h.pw, fun x => ?_⟩
  rw [h.iff x]
  constructor
  · rintro (s | ⟨d, a, c | ⟨c, c'⟩⟩)
    · exact .inl s
    · exact .inr ⟨d, a, .inl c⟩
    · exact .inr ⟨d, a, .inr ⟨c, by rw [List.take_succ_eq_append_getElem hi]; exact List.mem_append_left _ c'⟩⟩
  · rintro (s | ⟨d, a, c | ⟨c, c'⟩⟩)
    · exact .inl s
    · exact .inr ⟨d, a, .inl c⟩
    · rw [List.take_succ_eq_append_getElem hi, List.mem_append] at c'
      rcases c' with c' | c'
      · exact .inr ⟨d, a, .inr ⟨c, c'⟩⟩
      · exact absurd d (hp x (by simpa using Eq.symm (by simpa using c')))

theorem Inv.next {f : Nat → List Nat} {b b' : Nat} (h : Inv n bk D seed R dn f b (f b).length) (hb : ∀ c, dn c b' ↔ dn c b ∨ c = b) : Inv n bk D seed R dn f b' 0 := by
  refine ⟨h.mem, h.pw, fun x => ?_⟩
  rw [h.iff x]
  unfold Proc
  simp only [List.take_length, List.take_zero, List.not_mem_nil, and_false, or_false, hb]
  constructor
  · rintro (s | ⟨d, a, c | ⟨c, _⟩⟩)
    · exact .inl s
    · exact .inr ⟨d, a, .inl c⟩
    · exact .inr ⟨d, a, .inr c⟩
  · rintro (s | ⟨d, a, c | c⟩)
    · exact .inl s
    · exact .inr ⟨d, a, .inl c⟩
    · exact .inr ⟨d, a, .inr ⟨c, by rw [← c]; exact a⟩⟩

theorem Inv.done (P : Pass n bk D seed R dn) {f : Nat → List Nat} {b : Nat} (h : Inv n bk D seed R dn f b 0) (hb : ∀ p, p < n → dn (bk p) b) :
    ∀ p, p ∈ f (bk p) ↔ seed p ∨ D p := by
  have key : ∀ k p, p + k = n → (seed p ∨ D p) → p ∈ f (bk p) := by
    intro k
    induction k with
    | zero => intro p hp hs; rcases hs with s | d
              · exact (h.iff p).2 (.inl s)
              · have := P.ltD p d; omega
    | succ k ih =>
      intro p hp hs
      rcases hs with s | d
      · exact (h.iff p).2 (.inl s)
      · refine (h.iff p).2 (.inr ⟨d, ih (p + 1) (by omega) (P.up p d), .inl (hb _ (P.ltD p d))⟩)
  intro p
  constructor
  · intro c
    rcases (h.iff p).1 c with s | ⟨d, _⟩
    · exact .inl s
    · exact .inr d
  · intro c
    have : p < n := by rcases c with s | d
                       · exact P.ltS p s
                       · have := P.ltD p d; omega
    exact key (n - p) p (by omega) c

/-- How many places of a bucket there are. -/
def room (n : Nat) (bk : Nat → Nat) (c : Nat) : Nat := ((List.range n).filter fun p => bk p == c).length

theorem Inv.nodup (P : Pass n bk D seed R dn) {f : Nat → List Nat} {b i : Nat} (h : Inv n bk D seed R dn f b i) (c : Nat) : (f c).Nodup :=
  List.Pairwise.imp (S := fun a b => a ≠ b) (fun {a b} (hr : R a b) (e : a = b) => P.irr a (by rw [← e] at hr; exact hr)) (h.pw c)

theorem room_le {l : List Nat} {c : Nat} (hn : l.Nodup) (hm : ∀ p ∈ l, p < n ∧ bk p = c) : l.length ≤ room n bk c := by
  refine hn.length_le_of_subset fun x hx => ?_
  rw [List.mem_filter, List.mem_range]
  exact ⟨(hm x hx).1, by simpa using (hm x hx).2⟩
theorem room_lt {l : List Nat} {c p : Nat} (hn : l.Nodup) (hm : ∀ p ∈ l, p < n ∧ bk p = c) (hp : p ∉ l) (hpn : p < n) (hpc : bk p = c) : l.length < room n bk c := by
  have := room_le (l := p :: l) (n := n) (bk := bk) (c := c) (List.nodup_cons.2 ⟨hp, hn⟩) (by
    intro x hx
    rcases List.mem_cons.1 hx with rfl | hx
    · exact ⟨hpn, hpc⟩
    · exact hm x hx)
  simp only [List.length_cons] at this
  omega
theorem room_full {l : List Nat} {c : Nat} (hn : l.Nodup) (hm : ∀ p ∈ l, p < n ∧ bk p = c) (ha : ∀ p, p < n → bk p = c → p ∈ l) : l.length = room n bk c := by
  refine Nat.le_antisymm (room_le hn hm) ?_
  refine List.Nodup.length_le_of_subset (List.Pairwise.filter _ List.nodup_range) fun x hx => ?_
  rw [List.mem_filter, List.mem_range] at hx
  exact ha x hx.1 (by simpa using hx.2)
end
end Sedge
