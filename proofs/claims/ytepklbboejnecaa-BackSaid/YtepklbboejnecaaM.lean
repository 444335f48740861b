/- Plain mathematics of sorted ends. -/

/- Plain mathematics: the order of the ends of a list of numbers, slopes, and passes that put places into buckets. -/
namespace Sedge

theorem lt_irr (a : List Nat) : ¬ a < a := List.lt_irrefl a
theorem lt_tr {a b c : List Nat} (h : a < b) (k : b < c) : a < c := List.lt_trans h k
theorem lt_as {a b : List Nat} (h : a < b) : ¬ b < a := List.lt_asymm h
theorem lt_tri (a b : List Nat) : a < b ∨ a = b ∨ b < a := by
  by_cases h : a < b
  · exact .inl h
  · by_cases k : b < a
    · exact .inr (.inr k)
    · exact .inr (.inl (List.le_antisymm (show ¬ b < a from k) (show ¬ a < b from h)))
theorem cons_lt {a b : Nat} {x y : List Nat} : a :: x < b :: y ↔ a < b ∨ a = b ∧ x < y := List.cons_lt_cons_iff
theorem nil_lt (a : Nat) (x : List Nat) : [] < a :: x := List.nil_lt_cons a x
theorem not_lt_nil (x : List Nat) : ¬ x < [] := List.not_lt_nil x

/-- The number at a place. -/
def num (l : List Nat) (p : Nat) : Nat := l.getD p 0
theorem drop_num {l : List Nat} {p : Nat} (h : p < l.length) : l.drop p = num l p :: l.drop (p + 1) := by
  rw [List.drop_eq_getElem_cons h]
  simp [num, List.getD, h]
theorem drop_last {l : List Nat} {p : Nat} (h : l.length ≤ p) : l.drop p = [] := List.drop_eq_nil_of_le h

/-- Does the end at p stand ahead of the end at the next place? -/
def rises (l : List Nat) (p : Nat) : Bool := decide (l.drop p < l.drop (p + 1))
def slope (l : List Nat) (p : Nat) : Nat := if rises l p then 1 else 0
def buck (l : List Nat) (p : Nat) : Nat := num l p * 2 + slope l p

theorem slope_le (l : List Nat) (p : Nat) : slope l p ≤ 1 := by unfold slope; split <;> omega
theorem slope_zero {l : List Nat} {p : Nat} (h : p < l.length) : slope l p = 0 ↔ l.drop (p + 1) < l.drop p := by
  unfold slope rises
  constructor
  · intro k
    have k' : ¬ l.drop p < l.drop (p + 1) := by intro c; simp [c] at k
    rcases lt_tri (l.drop p) (l.drop (p + 1)) with c | c | c
    · exact absurd c k'
    · have := congrArg List.length c; simp at this; omega
    · exact c
  · intro k; simp [lt_as k]
theorem slope_one {l : List Nat} {p : Nat} : slope l p = 1 ↔ l.drop p < l.drop (p + 1) := by
  unfold slope rises
  constructor
  · intro k; by_cases c : l.drop p < l.drop (p + 1)
    · exact c
    · simp [c] at k
  · intro k; simp [k]
theorem slope_last {l : List Nat} {p : Nat} (h : l.length ≤ p + 1) : slope l p = 0 := by
  unfold slope rises
  rw [drop_last h]
  simp
theorem slope_lt {l : List Nat} {p : Nat} (h : slope l p = 1) : p + 1 < l.length := by
  by_cases c : p + 1 < l.length
  · exact c
  · rw [slope_last (by omega)] at h; omega
theorem slope_up {l : List Nat} {p : Nat} (h : p + 1 < l.length) (k : num l p < num l (p + 1)) : slope l p = 1 := by
  rw [slope_one, drop_num (by omega : p < l.length), drop_num h, cons_lt]; exact .inl k
theorem slope_eq {l : List Nat} {p : Nat} (h : p + 1 < l.length) (k : num l p = num l (p + 1)) : slope l p = slope l (p + 1) := by
  have a : (l.drop p < l.drop (p + 1)) ↔ (l.drop (p + 1) < l.drop (p + 2)) := by
    conv => lhs; rw [drop_num (by omega : p < l.length), drop_num h, cons_lt]
    constructor
    · rintro (c | ⟨_, c⟩)
      · omega
      · rw [drop_num h]; exact c
    · intro c; rw [drop_num h] at c; exact .inr ⟨k, c⟩
  unfold slope rises
  simp [a]
theorem slope_down {l : List Nat} {p : Nat} (h : p + 1 < l.length) (k : num l (p + 1) < num l p) : slope l p = 0 := by
  rw [slope_zero (by omega), drop_num (by omega : p < l.length), drop_num h, cons_lt]; exact .inl k

/-- Of two ends with the same first number the one that falls is the lesser. -/
theorem falls_aux (c : Nat) : ∀ (X Y : List Nat), X < c :: X → c :: Y < Y → X < Y
  | [], [], _, k => absurd k (not_lt_nil _)
  | [], y :: Y, _, _ => nil_lt _ _
  | x :: X, [], _, k => absurd k (not_lt_nil _)
  | x :: X, y :: Y, h, k => by
    rw [cons_lt] at h k ⊢
    rcases h with h | ⟨h, h'⟩
    · rcases k with k | ⟨k, _⟩ <;> exact .inl (by omega)
    · rcases k with k | ⟨k, k'⟩
      · exact .inl (by omega)
      · subst h; subst k
        exact .inr ⟨rfl, falls_aux x X Y h' k'⟩

theorem buck_lt {l : List Nat} {p q : Nat} (hp : p < l.length) (hq : q < l.length) (h : buck l p < buck l q) : l.drop p < l.drop q := by
  have a := slope_le l p
  have b := slope_le l q
  unfold buck at h
  by_cases e : num l p < num l q
  · rw [drop_num hp, drop_num hq, cons_lt]; exact .inl e
  · have e' : num l p = num l q := by omega
    have s0 : slope l p = 0 := by omega
    have s1 : slope l q = 1 := by omega
    rw [slope_zero hp, drop_num hp] at s0
    rw [slope_one, drop_num hq] at s1
    rw [drop_num hp, drop_num hq, cons_lt]
    exact .inr ⟨e', falls_aux (num l p) _ _ s0 (by rw [e']; exact s1)⟩
theorem buck_eq {l : List Nat} {p q : Nat} (h : buck l p = buck l q) : num l p = num l q ∧ slope l p = slope l q := by
  have a := slope_le l p
  have b := slope_le l q
  unfold buck at h; omega
theorem buck_step {l : List Nat} {p q : Nat} (hp : p < l.length) (hq : q < l.length) (h : buck l p = buck l q) : l.drop p < l.drop q ↔ l.drop (p + 1) < l.drop (q + 1) := by
  rw [drop_num hp, drop_num hq, cons_lt, (buck_eq h).1]
  constructor
  · rintro (c | ⟨_, c⟩)
    · omega
    · exact c
  · intro c; exact .inr ⟨rfl, c⟩
theorem buck_rise {l : List Nat} {p : Nat} (h : slope l p = 1) : buck l p ≤ buck l (p + 1) := by
  have hp := slope_lt h
  rw [slope_one] at h
  by_cases c : buck l p ≤ buck l (p + 1)
  · exact c
  · exact absurd h (lt_as (buck_lt hp (by omega) (by omega)))
theorem buck_fall {l : List Nat} {p : Nat} (hp : p + 1 < l.length) (h : slope l p = 0) : buck l (p + 1) ≤ buck l p := by
  rw [slope_zero (by omega)] at h
  by_cases c : buck l (p + 1) ≤ buck l p
  · exact c
  · exact absurd h (lt_as (buck_lt (by omega) hp (by omega)))

/-- Ends begin to fall at p. -/
def start (l : List Nat) (p : Nat) : Prop := p < l.length ∧ 0 < p ∧ slope l p = 0 ∧ slope l (p - 1) = 1

/-! ### A pass through buckets -/

/-- What a pass leans on: bk: a place's bucket; D: the places that it puts in; seed: those that lie there; R: what is met ahead of what; dn c b: bucket c is done when b is gone through. -/
structure Pass (n : Nat) (bk : Nat → Nat) (D seed : Nat → Prop) (R : Nat → Nat → Prop) (dn : Nat → Nat → Prop) : Prop where
  irr : ∀ x, ¬ R x x
  step : ∀ p q, D p → D q → bk p = bk q → R (p + 1) (q + 1) → R p q
  first : ∀ s p, seed s → D p → bk s = bk p → R s p
  disj : ∀ p, seed p → ¬ D p
  ltD : ∀ p, D p → p + 1 < n
  ltS : ∀ p, seed p → p < n
  up : ∀ p, D p → seed (p + 1) ∨ D (p + 1)
  bkR : ∀ x y, x < n → y < n → dn (bk x) (bk y) → R x y
  ndn : ∀ p, D p → ¬ dn (bk p) (bk (p + 1))
  dnb : ∀ b, ¬ dn b b

def Proc (bk : Nat → Nat) (dn : Nat → Nat → Prop) (f : Nat → List Nat) (b i q : Nat) : Prop :=
  q ∈ f (bk q) ∧ (dn (bk q) b ∨ (bk q = b ∧ q ∈ (f b).take i))

structure Inv (n : Nat) (bk : Nat → Nat) (D seed : Nat → Prop) (R : Nat → Nat → Prop) (dn : Nat → Nat → Prop) (f : Nat → List Nat) (b i : Nat) : Prop where
  mem : ∀ c, ∀ p ∈ f c, p < n ∧ bk p = c
  pw : ∀ c, (f c).Pairwise R
  iff : ∀ p, p ∈ f (bk p) ↔ seed p ∨ (D p ∧ Proc bk dn f b i (p + 1))

def push (f : Nat → List Nat) (c p : Nat) : Nat → List Nat := fun c' => if c' = c then f c' ++ [p] else f c'
theorem push_same (f : Nat → List Nat) (c p : Nat) : push f c p c = f c ++ [p] := by simp [push]
theorem push_other (f : Nat → List Nat) {c c' : Nat} (p : Nat) (h : c' ≠ c) : push f c p c' = f c' := by simp [push, h]
theorem mem_push {f : Nat → List Nat} {c p c' x : Nat} : x ∈ push f c p c' ↔ x ∈ f c' ∨ (c' = c ∧ x = p) := by
  unfold push
  split
  · simp_all
  · simp_all

section
variable {n : Nat} {bk : Nat → Nat} {D seed : Nat → Prop} {R : Nat → Nat → Prop} {dn : Nat → Nat → Prop}

theorem pw_not_take {l : List Nat} {i : Nat} (irr : ∀ x, ¬ R x x) (h : l.Pairwise R) (hi : i < l.length) : l[i] ∉ l.take i := by
  intro c
  obtain ⟨j, hj, e⟩ := List.getElem_of_mem c
  have hj' : j < i := by simp at hj; omega
  rw [List.getElem_take] at e
  have := List.pairwise_iff_getElem.1 h j i (by omega) hi hj'
  rw [e] at this
  exact irr _ this

theorem Inv.ahead (P : Pass n bk D seed R dn) {f : Nat → List Nat} {b i : Nat} (h : Inv n bk D seed R dn f b i) (hi : i < (f b).length) {x : Nat} (hx : Proc bk dn f b i x) : R x (f b)[i] := by
  have hm := h.mem b (f b)[i] (List.getElem_mem _)
  obtain ⟨hx0, hx | ⟨e, hx⟩⟩ := hx
  · exact P.bkR _ _ (h.mem _ _ hx0).1 hm.1 (by rw [hm.2]; exact hx)
  · obtain ⟨j, hj, e'⟩ := List.getElem_of_mem hx
    have hj' : j < i := by simp at hj; omega
    rw [List.getElem_take] at e'
    have := List.pairwise_iff_getElem.1 (h.pw b) j i (by omega) hi hj'
    rwa [e'] at this

theorem Inv.fresh (P : Pass n bk D seed R dn) {f : Nat → List Nat} {b i : Nat} (h : Inv n bk D seed R dn f b i) (hi : i < (f b).length) {p : Nat} (hp : (f b)[i] = p + 1) (hD : D p) : p ∉ f (bk p) := by
  intro c
  rw [h.iff p] at c
  rcases c with c | ⟨_, c⟩
  · exact P.disj _ c hD
  · have := h.ahead P hi c
    rw [hp] at this
    exact P.irr _ this

theorem Inv.push (P : Pass n bk D seed R dn) {f : Nat → List Nat} {b i : Nat} (h : Inv n bk D seed R dn f b i) (hi : i < (f b).length) {p : Nat} (hp : (f b)[i] = p + 1) (hD : D p) :
    Inv n bk D seed R dn (push f (bk p) p) b (i + 1) := by
  have hfr := h.fresh P hi hp hD
  have hq := h.mem b (f b)[i] (List.getElem_mem _)
  have hbq : bk (p + 1) = b := by rw [← hp]; exact hq.2
  have hnd : ¬ dn (bk p) b := by have := P.ndn p hD; rwa [hbq] at this
  have htake : (Sedge.push f (bk p) p b).take (i + 1) = (f b).take (i + 1) := by
    unfold Sedge.push
    split
    · rw [List.take_append_of_le_length (by omega)]
    · rfl
  have hproc : ∀ x, Proc bk dn (Sedge.push f (bk p) p) b (i + 1) x ↔ Proc bk dn f b i x ∨ x = p + 1 := by
    intro x
    unfold Proc
    rw [mem_push, htake, List.take_succ_eq_append_getElem hi, hp]
    constructor
    · rintro ⟨a | ⟨a, rfl⟩, c | ⟨c, c'⟩⟩
      · exact .inl ⟨a, .inl c⟩
      · rw [List.mem_append] at c'
        rcases c' with c' | c'
        · exact .inl ⟨a, .inr ⟨c, c'⟩⟩
        · exact .inr (by simpa using c')
      · exact absurd c hnd
      · rw [List.mem_append] at c'
        rcases c' with c' | c'
        · exact absurd (by rw [c]; exact List.mem_of_mem_take c') hfr
        · simp at c'
    · rintro (⟨a, c | ⟨c, c'⟩⟩ | rfl)
      · exact ⟨.inl a, .inl c⟩
      · exact ⟨.inl a, .inr ⟨c, List.mem_append_left _ c'⟩⟩
      · refine ⟨.inl ?_, .inr ⟨hbq, by simp⟩⟩
        rw [hbq, ← hp]; exact List.getElem_mem _
  refine ⟨?_, ?_, ?_⟩
  · intro c x hx
    rw [mem_push] at hx
    rcases hx with hx | ⟨rfl, rfl⟩
    · exact h.mem c x hx
    · exact ⟨by have := P.ltD _ hD; omega, rfl⟩
  · intro c
    unfold Sedge.push
    split
    · rename_i e
      rw [List.pairwise_append]
      refine ⟨h.pw c, by simp, ?_⟩
      intro y hy x hx
      have hx' : x = p := by simpa using hx
      subst hx'
      have hby := (h.mem c y hy).2
      have hy' : y ∈ f (bk y) := by rw [hby]; exact hy
      rw [h.iff y] at hy'
      rcases hy' with s | ⟨d, pr⟩
      · exact P.first y x s hD (by omega)
      · exact P.step y x d hD (by omega) (by have := h.ahead P hi pr; rwa [hp] at this)
    · exact h.pw c
  · intro x
    rw [mem_push, hproc, h.iff x]
    constructor
    · rintro ((s | ⟨d, pr⟩) | ⟨_, rfl⟩)
      · exact .inl s
      · exact .inr ⟨d, .inl pr⟩
      · exact .inr ⟨hD, .inr rfl⟩
    · rintro (s | ⟨d, pr | e⟩)
      · exact .inl (.inl s)
      · exact .inl (.inr ⟨d, pr⟩)
      · have : x = p := by omega
        subst this
        exact .inr ⟨rfl, rfl⟩

theorem Inv.skip {f : Nat → List Nat} {b i : Nat} (h : Inv n bk D seed R dn f b i) (hi : i < (f b).length) (hp : ∀ p, (f b)[i] = p + 1 → ¬ D p) :
    Inv n bk D seed R dn f b (i + 1) := by
  have hq := h.mem b (f b)[i] (List.getElem_mem _)
  refine ⟨h.mem, h.pw, fun x => ?_⟩
  rw [h.iff x]
  constructor
  · rintro (s | ⟨d, a, c | ⟨c, c'⟩⟩)
    · exact .inl s
    · exact .inr ⟨d, a, .inl c⟩
    · exact .inr ⟨d, a, .inr ⟨c, by rw [List.take_succ_eq_append_getElem hi]; exact List.mem_append_left _ c'⟩⟩
  · rintro (s | ⟨d, a, c | ⟨c, c'⟩⟩)
    · exact .inl s
    · exact .inr ⟨d, a, .inl c⟩
    · rw [List.take_succ_eq_append_getElem hi, List.mem_append] at c'
      rcases c' with c' | c'
      · exact .inr ⟨d, a, .inr ⟨c, c'⟩⟩
      · exact absurd d (hp x (by simpa using Eq.symm (by simpa using c')))

theorem Inv.next {f : Nat → List Nat} {b b' : Nat} (h : Inv n bk D seed R dn f b (f b).length) (hb : ∀ c, dn c b' ↔ dn c b ∨ c = b) : Inv n bk D seed R dn f b' 0 := by
  refine ⟨h.mem, h.pw, fun x => ?_⟩
  rw [h.iff x]
  unfold Proc
  simp only [List.take_length, List.take_zero, List.not_mem_nil, and_false, or_false, hb]
  constructor
  · rintro (s | ⟨d, a, c | ⟨c, _⟩⟩)
    · exact .inl s
    · exact .inr ⟨d, a, .inl c⟩
    · exact .inr ⟨d, a, .inr c⟩
  · rintro (s | ⟨d, a, c | c⟩)
    · exact .inl s
    · exact .inr ⟨d, a, .inl c⟩
    · exact .inr ⟨d, a, .inr ⟨c, by rw [← c]; exact a⟩⟩

theorem Inv.done (P : Pass n bk D seed R dn) {f : Nat → List Nat} {b : Nat} (h : Inv n bk D seed R dn f b 0) (hb : ∀ p, p < n → dn (bk p) b) :
    ∀ p, p ∈ f (bk p) ↔ seed p ∨ D p := by
  have key : ∀ k p, p + k = n → (seed p ∨ D p) → p ∈ f (bk p) := by
    intro k
    induction k with
    | zero => intro p hp hs; rcases hs with s | d
              · exact (h.iff p).2 (.inl s)
              · have := P.ltD p d; omega
    | succ k ih =>
      intro p hp hs
      rcases hs with s | d
      · exact (h.iff p).2 (.inl s)
      · refine (h.iff p).2 (.inr ⟨d, ih (p + 1) (by omega) (P.up p d), .inl (hb _ (P.ltD p d))⟩)
  intro p
  constructor
  · intro c
    rcases (h.iff p).1 c with s | ⟨d, _⟩
    · exact .inl s
    · exact .inr d
  · intro c
    have : p < n := by rcases c with s | d
                       · exact P.ltS p s
                       · have := P.ltD p d; omega
    exact key (n - p) p (by omega) c

/-- How many places of a bucket there are. -/
def room (n : Nat) (bk : Nat → Nat) (c : Nat) : Nat := ((List.range n).filter fun p => bk p == c).length

theorem Inv.nodup (P : Pass n bk D seed R dn) {f : Nat → List Nat} {b i : Nat} (h : Inv n bk D seed R dn f b i) (c : Nat) : (f c).Nodup :=
  List.Pairwise.imp (S := fun a b => a ≠ b) (fun {a b} (hr : R a b) (e : a = b) => P.irr a (by rw [← e] at hr; exact hr)) (h.pw c)

theorem room_le {l : List Nat} {c : Nat} (hn : l.Nodup) (hm : ∀ p ∈ l, p < n ∧ bk p = c) : l.length ≤ room n bk c := by
  refine hn.length_le_of_subset fun x hx => ?_
  rw [List.mem_filter, List.mem_range]
  exact ⟨(hm x hx).1, by simpa using (hm x hx).2⟩
theorem room_lt {l : List Nat} {c p : Nat} (hn : l.Nodup) (hm : ∀ p ∈ l, p < n ∧ bk p = c) (hp : p ∉ l) (hpn : p < n) (hpc : bk p = c) : l.length < room n bk c := by
  have := room_le (l := p :: l) (n := n) (bk := bk) (c := c) (List.nodup_cons.2 ⟨hp, hn⟩) (by
    intro x hx
    rcases List.mem_cons.1 hx with rfl | hx
    · exact ⟨hpn, hpc⟩
    · exact hm x hx)
  simp only [List.length_cons] at this
  omega
theorem room_full {l : List Nat} {c : Nat} (hn : l.Nodup) (hm : ∀ p ∈ l, p < n ∧ bk p = c) (ha : ∀ p, p < n → bk p = c → p ∈ l) : l.length = room n bk c := by
  refine Nat.le_antisymm (room_le hn hm) ?_
  refine List.Nodup.length_le_of_subset (List.Pairwise.filter _ List.nodup_range) fun x hx => ?_
  rw [List.mem_filter, List.mem_range] at hx
  exact ha x hx.1 (by simpa using hx.2)
end
end Sedge

/- Plain mathematics: the two passes of inducing, and what they leave. -/
namespace Sedge

/-- What the two passes of inducing lean on: S: the starts as they are handed over; lt1: the order of the first pass, lt: of the second. -/
structure Good (l S : List Nat) (lt1 lt : Nat → Nat → Prop) : Prop where
  irr1 : ∀ x, ¬ lt1 x x
  irr : ∀ x, ¬ lt x x
  bk1 : ∀ p q, p < l.length → q < l.length → buck l p < buck l q → lt1 p q
  bk : ∀ p q, p < l.length → q < l.length → buck l p < buck l q → lt p q
  up : ∀ p q, slope l p = 1 → slope l q = 1 → buck l p = buck l q → lt1 (p + 1) (q + 1) → lt1 p q
  down : ∀ p q, p + 1 < l.length → q + 1 < l.length → slope l p = 0 → slope l q = 0 → buck l p = buck l q → lt (p + 1) (q + 1) → lt p q
  last : ∀ p, p + 1 < l.length → slope l p = 0 → buck l (l.length - 1) = buck l p → lt (l.length - 1) p
  one : ∀ p q, slope l p = 1 → slope l q = 1 → lt1 p q → lt p q
  mem : ∀ p, p ∈ S ↔ start l p
  srt : S.Pairwise (fun a b => buck l a = buck l b → lt1 a b)

def D1 (l : List Nat) (p : Nat) : Prop := slope l p = 1
def D2 (l : List Nat) (p : Nat) : Prop := p + 1 < l.length ∧ slope l p = 0
def seed2 (l : List Nat) (p : Nat) : Prop := slope l p = 1 ∨ p + 1 = l.length

section
variable {l S : List Nat} {lt1 lt : Nat → Nat → Prop}

theorem Good.pass1 (G : Good l S lt1 lt) : Pass l.length (buck l) (D1 l) (start l) (fun x y => lt1 y x) (fun c b => b < c) where
  irr := G.irr1
  step p q hp hq hb hr := G.up q p hq hp hb.symm hr
  first s p hs hp hb := by have := (buck_eq hb).2; have a := hs.2.2.1; unfold D1 at hp; omega
  disj p hs hp := by have a := hs.2.2.1; unfold D1 at hp; omega
  ltD p hp := slope_lt hp
  ltS p hs := hs.1
  up p hp := by
    by_cases c : slope l (p + 1) = 1
    · exact .inr c
    · exact .inl ⟨slope_lt hp, by omega, by have := slope_le l (p + 1); omega, hp⟩
  bkR x y hx hy h := G.bk1 y x hy hx h
  ndn p hp h := by have := buck_rise hp; omega
  dnb b h := by omega

theorem Good.pass2 (G : Good l S lt1 lt) : Pass l.length (buck l) (D2 l) (seed2 l) lt (fun c b => c < b) where
  irr := G.irr
  step p q hp hq hb hr := G.down p q hp.1 hq.1 hp.2 hq.2 hb hr
  first s p hs hp hb := by
    rcases hs with hs | hs
    · have := (buck_eq hb).2; have a := hp.2; omega
    · have : s = l.length - 1 := by omega
      subst this; exact G.last p hp.1 hp.2 hb
  disj p hs hp := by
    have a := hp.1; have b := hp.2
    rcases hs with hs | hs <;> omega
  ltD p hp := hp.1
  ltS p hs := by
    rcases hs with hs | hs
    · have := slope_lt hs; omega
    · omega
  up p hp := by
    have a := hp.1
    by_cases c : slope l (p + 1) = 1
    · exact .inl (.inl c)
    · by_cases d : p + 1 + 1 = l.length
      · exact .inl (.inr d)
      · exact .inr ⟨by omega, by have := slope_le l (p + 1); omega⟩
  bkR x y hx hy h := G.bk x y hx hy h
  ndn p hp h := by have := buck_fall hp.1 hp.2; omega
  dnb b h := by omega

/-- The first pass: its state ahead of bucket b - 1 (b buckets are left to do). -/
def Inv1 (l : List Nat) (lt1 : Nat → Nat → Prop) (f : Nat → List Nat) (b i : Nat) : Prop :=
  Inv l.length (buck l) (D1 l) (start l) (fun x y => lt1 y x) (fun c b => b < c) f b i
def Inv2 (l : List Nat) (lt : Nat → Nat → Prop) (f : Nat → List Nat) (b i : Nat) : Prop :=
  Inv l.length (buck l) (D2 l) (seed2 l) lt (fun c b => c < b) f b i

/-- The buckets behind t steps of putting the starts in, the last one first. -/
def f0 (l S : List Nat) (t : Nat) : Nat → List Nat := fun c => (S.reverse.take t).filter fun p => buck l p == c
theorem f0_zero (l S : List Nat) : f0 l S 0 = fun _ => [] := by funext c; simp [f0]
theorem f0_succ {l S : List Nat} {t : Nat} (h : t < S.length) : f0 l S (t + 1) = push (f0 l S t) (buck l (num S.reverse t)) (num S.reverse t) := by
  have h' : t < S.reverse.length := by simpa using h
  have e : S.reverse[t] = num S.reverse t := by simp [num, List.getD, h]
  funext c
  unfold f0 push
  rw [List.take_succ_eq_append_getElem h', List.filter_append, e]
  by_cases k : buck l (num S.reverse t) = c
  · simp [k]
  · have k' : ¬ c = buck l (num S.reverse t) := fun e => k e.symm
    simp [k, k']

theorem Good.start1 (G : Good l S lt1 lt) {b : Nat} (hb : ∀ p, p < l.length → buck l p ≤ b) : Inv1 l lt1 (f0 l S S.length) b 0 := by
  have e : S.reverse.take S.length = S.reverse := by rw [← List.length_reverse, List.take_length]
  refine ⟨?_, ?_, ?_⟩
  · intro c p hp
    simp only [f0, e, List.mem_filter, List.mem_reverse, G.mem, beq_iff_eq] at hp
    exact ⟨hp.1.1, hp.2⟩
  · intro c
    simp only [f0, e]
    have a : (S.reverse.filter fun p => buck l p == c).Pairwise (fun a b => buck l b = buck l a → lt1 b a) := (List.pairwise_reverse.2 G.srt).filter _
    refine a.imp_of_mem ?_
    intro x y hx hy h
    simp only [List.mem_filter, beq_iff_eq] at hx hy
    exact h (by omega)
  · intro p
    simp only [f0, e, List.mem_filter, List.mem_reverse, G.mem, beq_self_eq_true, and_true, Proc, List.take_zero, List.not_mem_nil, and_false, or_false]
    constructor
    · exact .inl
    · rintro (s | ⟨d, ⟨a, _⟩, c⟩)
      · exact s
      · have := hb (p + 1) (slope_lt d); omega

/-- What the first pass leaves. -/
structure Fin1 (l : List Nat) (lt1 : Nat → Nat → Prop) (f : Nat → List Nat) : Prop where
  mem : ∀ c, ∀ p ∈ f c, p < l.length ∧ buck l p = c
  pw : ∀ c, (f c).Pairwise (fun x y => lt1 y x)
  iff : ∀ p, slope l p = 1 → p ∈ f (buck l p)

theorem Good.fin1 (G : Good l S lt1 lt) {f : Nat → List Nat} (h : Inv1 l lt1 f 0 (f 0).length) : Fin1 l lt1 f := by
  refine ⟨h.mem, h.pw, fun p hp => ?_⟩
  have key : ∀ k p, p + k = l.length → (start l p ∨ D1 l p) → p ∈ f (buck l p) := by
    intro k
    induction k with
    | zero => intro p hp hs; rcases hs with s | d
              · exact (h.iff p).2 (.inl s)
              · have := G.pass1.ltD p d; omega
    | succ k ih =>
      intro p hp hs
      rcases hs with s | d
      · exact (h.iff p).2 (.inl s)
      · have a := ih (p + 1) (by omega) (G.pass1.up p d)
        refine (h.iff p).2 (.inr ⟨d, a, ?_⟩)
        by_cases c : buck l (p + 1) = 0
        · exact .inr ⟨c, by rw [List.take_length, ← c]; exact a⟩
        · exact .inl (by omega)
  have := slope_lt hp
  exact key (l.length - p) p (by omega) (.inr hp)

/-- The buckets ahead of the second pass: the rising ones turned, the falling ones empty, but for the last place. -/
def g0 (f : Nat → List Nat) : Nat → List Nat := fun c => if c % 2 = 1 then (f c).reverse else []

theorem Good.start2 (G : Good l S lt1 lt) (hn : 0 < l.length) {f : Nat → List Nat} (h : Fin1 l lt1 f) : Inv2 l lt (push (g0 f) (buck l (l.length - 1)) (l.length - 1)) 0 0 := by
  have sl : slope l (l.length - 1) = 0 := slope_last (by omega)
  have odd : ∀ p, buck l p % 2 = slope l p := fun p => by have := slope_le l p; unfold buck; omega
  have mem0 : ∀ c, ∀ p ∈ g0 f c, p < l.length ∧ buck l p = c ∧ slope l p = 1 := by
    intro c p hp
    unfold g0 at hp
    split at hp
    · rw [List.mem_reverse] at hp
      have a := h.mem c p hp
      exact ⟨a.1, a.2, by rw [← odd, a.2]; assumption⟩
    · simp at hp
  refine ⟨?_, ?_, ?_⟩
  · intro c p hp
    rw [mem_push] at hp
    rcases hp with hp | ⟨rfl, rfl⟩
    · exact ⟨(mem0 c p hp).1, (mem0 c p hp).2.1⟩
    · exact ⟨by omega, rfl⟩
  · intro c
    have base : (g0 f c).Pairwise lt := by
      by_cases k : c % 2 = 1
      · have a : (g0 f c).Pairwise lt1 := by
          unfold g0; rw [if_pos k]
          exact List.pairwise_reverse.2 (h.pw c)
        exact a.imp_of_mem fun {x y} hx hy hr => G.one x y (mem0 c x hx).2.2 (mem0 c y hy).2.2 hr
      · unfold g0; rw [if_neg k]; simp
    unfold push
    split
    · rename_i e
      rw [List.pairwise_append]
      refine ⟨base, by simp, ?_⟩
      intro y hy x hx
      have a := mem0 c y hy
      have := odd y
      have := odd (l.length - 1)
      rw [a.2.1, e] at *
      omega
    · exact base
  · intro p
    rw [mem_push]
    constructor
    · rintro (a | ⟨a, b⟩)
      · exact .inl (.inl (mem0 _ p a).2.2)
      · exact .inl (.inr (by omega))
    · rintro ((a | a) | ⟨_, _, c | ⟨_, c⟩⟩)
      · refine .inl ?_
        unfold g0; rw [if_pos (by rw [odd]; exact a), List.mem_reverse]
        exact h.iff p a
      · have : p = l.length - 1 := by omega
        subst this; exact .inr ⟨rfl, rfl⟩
      · omega
      · simp at c

/-- What the second pass leaves. -/
structure Fin2 (l : List Nat) (lt : Nat → Nat → Prop) (f : Nat → List Nat) : Prop where
  mem : ∀ c, ∀ p ∈ f c, p < l.length ∧ buck l p = c
  pw : ∀ c, (f c).Pairwise lt
  iff : ∀ p, p < l.length → p ∈ f (buck l p)

theorem Good.fin2 (G : Good l S lt1 lt) {f : Nat → List Nat} {b : Nat} (h : Inv2 l lt f b (f b).length) (hb : ∀ p, p < l.length → buck l p ≤ b) : Fin2 l lt f := by
  refine ⟨h.mem, h.pw, fun p hp => ?_⟩
  have key : ∀ k p, p + k = l.length → (seed2 l p ∨ D2 l p) → p ∈ f (buck l p) := by
    intro k
    induction k with
    | zero => intro p hp hs; rcases hs with s | d
              · exact (h.iff p).2 (.inl s)
              · have := G.pass2.ltD p d; omega
    | succ k ih =>
      intro p hp hs
      rcases hs with s | d
      · exact (h.iff p).2 (.inl s)
      · have a := ih (p + 1) (by omega) (G.pass2.up p d)
        refine (h.iff p).2 (.inr ⟨d, a, ?_⟩)
        have hb' := hb (p + 1) d.1
        by_cases c : buck l (p + 1) = b
        · exact .inr ⟨c, by rw [List.take_length, ← c]; exact a⟩
        · exact .inl (by omega)
  refine key (l.length - p) p (by omega) ?_
  have a := slope_le l p
  by_cases c : slope l p = 1
  · exact .inl (.inl c)
  · by_cases d : p + 1 = l.length
    · exact .inl (.inr d)
    · exact .inr ⟨by omega, by omega⟩

/-- All buckets, one behind the other. -/
def flat (g : Nat → List Nat) (K : Nat) : List Nat := (List.range K).flatMap g

theorem Good.flat (G : Good l S lt1 lt) {g : Nat → List Nat} (h : Fin2 l lt g) {K : Nat} (hK : ∀ p, p < l.length → buck l p < K) :
    (flat g K).Pairwise lt ∧ ∀ p, p ∈ flat g K ↔ p < l.length := by
  constructor
  · unfold Sedge.flat
    rw [List.pairwise_flatMap]
    refine ⟨fun c _ => h.pw c, ?_⟩
    refine List.Pairwise.imp ?_ (List.pairwise_lt_range)
    intro a b hab x hx y hy
    have hx' := h.mem a x hx
    have hy' := h.mem b y hy
    exact G.bk x y hx'.1 hy'.1 (by omega)
  · intro p
    unfold Sedge.flat
    rw [List.mem_flatMap]
    constructor
    · rintro ⟨c, _, hp⟩; exact (h.mem c p hp).1
    · intro hp; exact ⟨buck l p, List.mem_range.2 (hK p hp), h.iff p hp⟩
theorem Fin2.room {f : Nat → List Nat} (h : Fin2 l lt f) (irr : ∀ x, ¬ lt x x) (c : Nat) : (f c).length = room l.length (buck l) c :=
  room_full (List.Pairwise.imp (S := fun a b => a ≠ b) (fun {a b} (hr : lt a b) (e : a = b) => irr a (by rw [← e] at hr; exact hr)) (h.pw c)) (h.mem c) (fun p hp e => by rw [← e]; exact h.iff p hp)
end

/-- The order of ends is fit for both passes. -/
def suf (l : List Nat) (p q : Nat) : Prop := l.drop p < l.drop q
theorem good_suf {l S : List Nat} (hm : ∀ p, p ∈ S ↔ start l p) (hs : S.Pairwise (suf l)) : Good l S (suf l) (suf l) where
  irr1 x := lt_irr _
  irr x := lt_irr _
  bk1 p q hp hq h := buck_lt hp hq h
  bk p q hp hq h := buck_lt hp hq h
  up p q hp hq hb h := (buck_step (by have := slope_lt hp; omega) (by have := slope_lt hq; omega) hb).2 h
  down p q hp hq _ _ hb h := (buck_step (by omega) (by omega) hb).2 h
  last p hp _ hb := by
    refine (buck_step (by omega) (by omega) hb).2 ?_
    rw [drop_last (by omega), drop_num hp]; exact nil_lt _ _
  one p q _ _ h := h
  mem := hm
  srt := List.Pairwise.imp (fun {a b} (h : suf l a b) (_ : buck l a = buck l b) => h) hs
end Sedge

/- Plain mathematics: names for sorted places; keys, pieces, the smaller row of names; the places of all ends in order. -/
namespace Sedge

/-! ### Names for places that are sorted by a key -/

/-- The name of the i-th place of a list: how many of the places up to it are not like the one ahead. -/
def nm (same : Nat → Nat → Bool) (o : List Nat) : Nat → Nat
  | 0 => 0
  | i + 1 => nm same o i + if same (num o i) (num o (i + 1)) then 0 else 1
def nameOf (same : Nat → Nat → Bool) (o : List Nat) (p : Nat) : Nat := if p ∈ o then nm same o (o.idxOf p) else 0
/-- How many names there are. -/
def kindsOf (same : Nat → Nat → Bool) (o : List Nat) : Nat := if o.length = 0 then 0 else nm same o (o.length - 1) + 1

theorem num_mem {o : List Nat} {i : Nat} (h : i < o.length) : num o i ∈ o := by
  have : num o i = o[i] := by simp [num, List.getD, h]
  rw [this]; exact List.getElem_mem _
theorem num_eq {o : List Nat} {i : Nat} (h : i < o.length) : num o i = o[i] := by simp [num, List.getD, h]
theorem idx_num {o : List Nat} (hn : o.Nodup) {i : Nat} (h : i < o.length) : o.idxOf (num o i) = i := by
  rw [num_eq h]; exact hn.idxOf_getElem i h
theorem nameOf_num {same : Nat → Nat → Bool} {o : List Nat} (hn : o.Nodup) {i : Nat} (h : i < o.length) : nameOf same o (num o i) = nm same o i := by
  unfold nameOf; rw [if_pos (num_mem h), idx_num hn h]
theorem idx_of_mem {o : List Nat} {p : Nat} (h : p ∈ o) : o.idxOf p < o.length ∧ num o (o.idxOf p) = p := by
  have a := List.idxOf_lt_length_iff.2 h
  exact ⟨a, by rw [num_eq a]; exact List.getElem_idxOf a⟩
theorem nm_le (same : Nat → Nat → Bool) (o : List Nat) (i : Nat) : nm same o i ≤ i := by
  induction i with
  | zero => simp [nm]
  | succ i ih => simp only [nm]; split <;> omega
theorem nm_mono (same : Nat → Nat → Bool) (o : List Nat) {i j : Nat} (h : i ≤ j) : nm same o i ≤ nm same o j := by
  induction j with
  | zero => have : i = 0 := by omega
            subst this; exact Nat.le_refl _
  | succ j ih =>
    by_cases e : i = j + 1
    · subst e; exact Nat.le_refl _
    · have := ih (by omega)
      simp only [nm]; omega

/-- What names are good for: K: the key by which the list is sorted; same: have two places the same key? -/
structure Sorted (K : Nat → List Nat) (same : Nat → Nat → Bool) (o : List Nat) : Prop where
  nd : o.Nodup
  le : ∀ i j, i < j → j < o.length → K (num o i) < K (num o j) ∨ K (num o i) = K (num o j)
  same : ∀ i, i + 1 < o.length → (same (num o i) (num o (i + 1)) = true ↔ K (num o i) = K (num o (i + 1)))

section
variable {K : Nat → List Nat} {same : Nat → Nat → Bool} {o : List Nat}
theorem Sorted.nm_eq (h : Sorted K same o) {i : Nat} : ∀ {j : Nat}, i ≤ j → j < o.length → (nm same o i = nm same o j ↔ K (num o i) = K (num o j)) := by
  intro j
  induction j with
  | zero => intro hij _; have : i = 0 := by omega
            subst this; simp
  | succ j ih =>
    intro hij hj
    by_cases e : i = j + 1
    · subst e; simp
    · have a := ih (by omega) (by omega)
      have m := nm_mono same o (show i ≤ j by omega)
      have hs := h.same j hj
      by_cases c : same (num o j) (num o (j + 1)) = true
      · simp only [nm, c, if_true, Nat.add_zero]
        rw [← hs.1 c]; exact a
      · constructor
        · intro k; simp only [nm, c] at k; simp at k; omega
        · intro k
          exfalso
          have c' : K (num o j) ≠ K (num o (j + 1)) := fun e => c (hs.2 e)
          have d : K (num o j) < K (num o (j + 1)) := by
            rcases h.le j (j + 1) (by omega) hj with d | d
            · exact d
            · exact absurd d c'
          by_cases e' : i = j
          · subst e'; rw [k] at d; exact lt_irr _ d
          · rcases h.le i j (by omega) (by omega) with d' | d'
            · rw [k] at d'; exact lt_as d d'
            · rw [← d', k] at d; exact lt_irr _ d
theorem Sorted.nm_lt (h : Sorted K same o) {i j : Nat} (hij : i ≤ j) (hj : j < o.length) : nm same o i < nm same o j ↔ K (num o i) < K (num o j) := by
  have a := h.nm_eq hij hj
  have m := nm_mono same o hij
  constructor
  · intro c
    have : ¬ K (num o i) = K (num o j) := fun e => by have := a.2 e; omega
    by_cases e : i = j
    · subst e; omega
    · rcases h.le i j (by omega) hj with d | d
      · exact d
      · exact absurd d this
  · intro c
    have : nm same o i ≠ nm same o j := fun e => by rw [a.1 e] at c; exact lt_irr _ c
    omega
theorem Sorted.name_eq (h : Sorted K same o) {a b : Nat} (ha : a ∈ o) (hb : b ∈ o) : nameOf same o a = nameOf same o b ↔ K a = K b := by
  obtain ⟨a1, a2⟩ := idx_of_mem ha
  obtain ⟨b1, b2⟩ := idx_of_mem hb
  unfold nameOf; rw [if_pos ha, if_pos hb]
  rcases Nat.le_total (o.idxOf a) (o.idxOf b) with c | c
  · rw [h.nm_eq c b1, a2, b2]
  · have := h.nm_eq c a1
    rw [a2, b2] at this
    exact ⟨fun e => (this.1 e.symm).symm, fun e => (this.2 e.symm).symm⟩
theorem Sorted.name_lt (h : Sorted K same o) {a b : Nat} (ha : a ∈ o) (hb : b ∈ o) : nameOf same o a < nameOf same o b ↔ K a < K b := by
  obtain ⟨a1, a2⟩ := idx_of_mem ha
  obtain ⟨b1, b2⟩ := idx_of_mem hb
  unfold nameOf; rw [if_pos ha, if_pos hb]
  rcases Nat.le_total (o.idxOf a) (o.idxOf b) with c | c
  · rw [h.nm_lt c b1, a2, b2]
  · have k := h.nm_lt c a1
    have e := h.nm_eq c a1
    rw [a2, b2] at k e
    constructor
    · intro d; have := nm_mono same o c; omega
    · intro d
      have n1 : ¬ nm same o (o.idxOf b) < nm same o (o.idxOf a) := fun x => lt_as d (k.1 x)
      have n2 : ¬ nm same o (o.idxOf b) = nm same o (o.idxOf a) := fun x => by rw [e.1 x] at d; exact lt_irr _ d
      omega
theorem name_lt_kinds {p : Nat} (hp : p ∈ o) : nameOf same o p < kindsOf same o := by
  obtain ⟨a1, _⟩ := idx_of_mem hp
  unfold nameOf kindsOf; rw [if_pos hp, if_neg (by omega)]
  have := nm_mono same o (show o.idxOf p ≤ o.length - 1 by omega)
  omega
theorem kinds_le : kindsOf same o ≤ o.length := by
  unfold kindsOf; split
  · omega
  · have := nm_le same o (o.length - 1); omega
/-- As many names as places: each place has a name of its own, and the list is sorted strictly. -/
theorem nm_full (h : kindsOf same o = o.length) : ∀ i, i < o.length → nm same o i = i := by
  unfold kindsOf at h
  intro i hi
  rw [if_neg (by omega)] at h
  have key : ∀ k, k < o.length → nm same o (o.length - 1 - k) = o.length - 1 - k := by
    intro k
    induction k with
    | zero => intro _; simp; omega
    | succ k ih =>
      intro hk
      have a := ih (by omega)
      have e : o.length - 1 - k = (o.length - 1 - (k + 1)) + 1 := by omega
      rw [e] at a
      simp only [nm] at a
      have := nm_le same o (o.length - 1 - (k + 1))
      split at a <;> omega
  have := key (o.length - 1 - i) (by omega)
  have e : o.length - 1 - (o.length - 1 - i) = i := by omega
  rwa [e] at this
theorem Sorted.strict (h : Sorted K same o) (hk : kindsOf same o = o.length) : o.Pairwise (fun a b => K a < K b) := by
  rw [List.pairwise_iff_getElem]
  intro i j hi hj hij
  have := (h.nm_lt (show i ≤ j by omega) hj).1 (by rw [nm_full hk i hi, nm_full hk j hj]; exact hij)
  rwa [num_eq hi, num_eq hj] at this
end

/-! ### Keys of the first going through: up to the next start, and then its place -/

def keyUp (l : List Nat) : Nat → Nat → List Nat
  | 0, _ => []
  | f + 1, p => if slope l p = 1 then buck l p :: keyUp l f (p + 1) else [buck l p, p]
def keyAll (l : List Nat) : Nat → Nat → List Nat
  | 0, _ => []
  | f + 1, p => if slope l p = 1 then keyUp l (f + 1) p else buck l p :: keyAll l f (p + 1)
def pcUp (l : List Nat) : Nat → Nat → List Nat
  | 0, _ => []
  | f + 1, p => if slope l p = 1 then buck l p :: pcUp l f (p + 1) else [buck l p]
def pcAll (l : List Nat) : Nat → Nat → List Nat
  | 0, _ => []
  | f + 1, p => if slope l p = 1 then pcUp l (f + 1) p else buck l p :: pcAll l f (p + 1)
def k1 (l : List Nat) (p : Nat) : List Nat := keyUp l (l.length - p) p
def k2 (l : List Nat) (p : Nat) : List Nat := keyAll l (l.length - p) p
def c1 (l : List Nat) (p : Nat) : List Nat := pcUp l (l.length - p) p
def c2 (l : List Nat) (p : Nat) : List Nat := pcAll l (l.length - p) p

section
variable {l : List Nat} {p q : Nat}
theorem k1_up (h : slope l p = 1) : k1 l p = buck l p :: k1 l (p + 1) := by
  have a := slope_lt h
  unfold k1; rw [show l.length - p = (l.length - (p + 1)) + 1 by omega]; simp [keyUp, h]
theorem k1_start (hp : p < l.length) (h : slope l p = 0) : k1 l p = [buck l p, p] := by
  unfold k1; rw [show l.length - p = (l.length - (p + 1)) + 1 by omega]; simp [keyUp, h]
theorem k2_up (h : slope l p = 1) : k2 l p = k1 l p := by
  have a := slope_lt h
  unfold k1 k2; rw [show l.length - p = (l.length - (p + 1)) + 1 by omega]; simp [keyAll, h]
theorem k2_down (hp : p < l.length) (h : slope l p = 0) : k2 l p = buck l p :: k2 l (p + 1) := by
  unfold k2; rw [show l.length - p = (l.length - (p + 1)) + 1 by omega]; simp [keyAll, h]
theorem k2_end (hp : l.length ≤ p) : k2 l p = [] := by
  unfold k2; rw [show l.length - p = 0 by omega]; simp [keyAll]
theorem c1_up (h : slope l p = 1) : c1 l p = buck l p :: c1 l (p + 1) := by
  have a := slope_lt h
  unfold c1; rw [show l.length - p = (l.length - (p + 1)) + 1 by omega]; simp [pcUp, h]
theorem c1_start (hp : p < l.length) (h : slope l p = 0) : c1 l p = [buck l p] := by
  unfold c1; rw [show l.length - p = (l.length - (p + 1)) + 1 by omega]; simp [pcUp, h]
theorem c2_up (h : slope l p = 1) : c2 l p = c1 l p := by
  have a := slope_lt h
  unfold c1 c2; rw [show l.length - p = (l.length - (p + 1)) + 1 by omega]; simp [pcAll, h]
theorem c2_down (hp : p < l.length) (h : slope l p = 0) : c2 l p = buck l p :: c2 l (p + 1) := by
  unfold c2; rw [show l.length - p = (l.length - (p + 1)) + 1 by omega]; simp [pcAll, h]
theorem c2_end (hp : l.length ≤ p) : c2 l p = [] := by
  unfold c2; rw [show l.length - p = 0 by omega]; simp [pcAll]
theorem k1_head (hp : p < l.length) : ∃ t, k1 l p = buck l p :: t := by
  have a := slope_le l p
  by_cases h : slope l p = 1
  · exact ⟨_, k1_up h⟩
  · exact ⟨_, k1_start hp (by omega)⟩
theorem k2_head (hp : p < l.length) : ∃ t, k2 l p = buck l p :: t := by
  have a := slope_le l p
  by_cases h : slope l p = 1
  · rw [k2_up h]; exact k1_head hp
  · exact ⟨_, k2_down hp (by omega)⟩
theorem c1_head (hp : p < l.length) : ∃ t, c1 l p = buck l p :: t := by
  have a := slope_le l p
  by_cases h : slope l p = 1
  · exact ⟨_, c1_up h⟩
  · exact ⟨_, c1_start hp (by omega)⟩
theorem c2_head (hp : p < l.length) : ∃ t, c2 l p = buck l p :: t := by
  have a := slope_le l p
  by_cases h : slope l p = 1
  · rw [c2_up h]; exact c1_head hp
  · exact ⟨_, c2_down hp (by omega)⟩
end

/-- All starts, by rising places. -/
def isSt (l : List Nat) (p : Nat) : Bool := decide (0 < p) && decide (slope l p = 0) && decide (slope l (p - 1) = 1)
def starts (l : List Nat) : List Nat := (List.range l.length).filter (isSt l)
theorem isSt_iff {l : List Nat} {p : Nat} (hp : p < l.length) : isSt l p = true ↔ start l p := by
  unfold isSt start; simp [hp, and_assoc]
theorem mem_starts {l : List Nat} {p : Nat} : p ∈ starts l ↔ start l p := by
  unfold starts
  rw [List.mem_filter, List.mem_range]
  constructor
  · rintro ⟨a, b⟩; exact (isSt_iff a).1 b
  · intro h; exact ⟨h.1, (isSt_iff h.1).2 h⟩
theorem starts_asc (l : List Nat) : (starts l).Pairwise (· < ·) := List.Pairwise.filter _ List.pairwise_lt_range
theorem nodup_of_irr {R : Nat → Nat → Prop} (irr : ∀ x, ¬ R x x) {o : List Nat} (h : o.Pairwise R) : o.Nodup :=
  List.Pairwise.imp (S := fun a b => a ≠ b) (fun {a b} (hr : R a b) (e : a = b) => irr a (by rw [← e] at hr; exact hr)) h
theorem starts_nodup (l : List Nat) : (starts l).Nodup := nodup_of_irr (fun x h => Nat.lt_irrefl x h) (starts_asc l)
theorem starts_length {l : List Nat} (h : 0 < l.length) : (starts l).length < l.length := by
  have a : (0 :: starts l).Nodup := by
    rw [List.nodup_cons]
    exact ⟨fun c => by have := (mem_starts.1 c).2.1; omega, starts_nodup l⟩
  have b := a.length_le_of_subset (l₂ := List.range l.length) (fun x hx => by
    rcases List.mem_cons.1 hx with rfl | hx
    · exact List.mem_range.2 h
    · exact List.mem_range.2 (mem_starts.1 hx).1)
  simp only [List.length_cons, List.length_range] at b
  omega

/-- The keys are fit for both passes. -/
theorem good_key (l : List Nat) : Good l (starts l) (fun p q => k1 l p < k1 l q) (fun p q => k2 l p < k2 l q) where
  irr1 x := lt_irr _
  irr x := lt_irr _
  bk1 p q hp hq h := by
    obtain ⟨s, hs⟩ := k1_head hp
    obtain ⟨t, ht⟩ := k1_head hq
    rw [hs, ht, cons_lt]; exact .inl h
  bk p q hp hq h := by
    obtain ⟨s, hs⟩ := k2_head hp
    obtain ⟨t, ht⟩ := k2_head hq
    rw [hs, ht, cons_lt]; exact .inl h
  up p q hp hq hb h := by rw [k1_up hp, k1_up hq, cons_lt]; exact .inr ⟨hb, h⟩
  down p q hp hq sp sq hb h := by rw [k2_down (by omega) sp, k2_down (by omega) sq, cons_lt]; exact .inr ⟨hb, h⟩
  last p hp sp hb := by
    obtain ⟨t, ht⟩ := k2_head hp
    rw [k2_down (by omega) (slope_last (by omega)), k2_end (by omega), k2_down (by omega) sp, ht, cons_lt]
    exact .inr ⟨hb, nil_lt _ _⟩
  one p q hp hq h := by rw [k2_up hp, k2_up hq]; exact h
  mem p := mem_starts
  srt := by
    refine (starts_asc l).imp_of_mem ?_
    intro a b ha hb hab hk
    have sa := mem_starts.1 ha
    have sb := mem_starts.1 hb
    rw [k1_start sa.1 sa.2.2.1, k1_start sb.1 sb.2.2.1, cons_lt, cons_lt]
    exact .inr ⟨hk, .inl hab⟩

/-! ### What the keys say of pieces, and pieces of ends -/

theorem c1_of_k1 {l : List Nat} : ∀ (m p q : Nat), p + m = l.length → p < l.length → q < l.length → k1 l p < k1 l q → c1 l p < c1 l q ∨ c1 l p = c1 l q := by
  intro m
  induction m with
  | zero => intro p q hp hp' _ _; omega
  | succ m ih =>
    intro p q hp hp' hq h
    by_cases e : buck l p = buck l q
    · have sl := (buck_eq e).2
      have a := slope_le l p
      by_cases s : slope l p = 1
      · rw [k1_up s, k1_up (show slope l q = 1 by omega), cons_lt] at h
        rcases h with h | ⟨_, h⟩
        · omega
        · have hp1 := slope_lt s
          have hq1 := slope_lt (show slope l q = 1 by omega)
          rcases ih (p + 1) (q + 1) (by omega) hp1 hq1 h with c | c
          · left; rw [c1_up s, c1_up (show slope l q = 1 by omega), cons_lt]; exact .inr ⟨e, c⟩
          · right; rw [c1_up s, c1_up (show slope l q = 1 by omega), e, c]
      · right; rw [c1_start hp' (by omega), c1_start hq (by omega), e]
    · obtain ⟨s, hs⟩ := k1_head hp'
      obtain ⟨t, ht⟩ := k1_head hq
      obtain ⟨s', hs'⟩ := c1_head hp'
      obtain ⟨t', ht'⟩ := c1_head hq
      rw [hs, ht, cons_lt] at h
      left; rw [hs', ht', cons_lt]
      rcases h with h | ⟨h, _⟩
      · exact .inl h
      · exact absurd h e
theorem c2_of_k2 {l : List Nat} : ∀ (m p q : Nat), p + m = l.length → q ≤ l.length → k2 l p < k2 l q → c2 l p < c2 l q ∨ c2 l p = c2 l q := by
  intro m
  induction m with
  | zero =>
    intro p q hp hq h
    by_cases e : q = l.length
    · rw [k2_end (show l.length ≤ q by omega)] at h; exact absurd h (not_lt_nil _)
    · obtain ⟨t, ht⟩ := c2_head (show q < l.length by omega)
      left; rw [c2_end (by omega), ht]; exact nil_lt _ _
  | succ m ih =>
    intro p q hp hq h
    by_cases e0 : q = l.length
    · rw [k2_end (show l.length ≤ q by omega)] at h; exact absurd h (not_lt_nil _)
    · have hp' : p < l.length := by omega
      have hq' : q < l.length := by omega
      by_cases e : buck l p = buck l q
      · have sl := (buck_eq e).2
        have a := slope_le l p
        by_cases s : slope l p = 1
        · rw [k2_up s, k2_up (by omega)] at h
          rw [c2_up s, c2_up (by omega)]
          exact c1_of_k1 (l.length - p) p q (by omega) hp' hq' h
        · rw [k2_down hp' (by omega), k2_down hq' (by omega), cons_lt] at h
          rcases h with h | ⟨_, h⟩
          · omega
          · rcases ih (p + 1) (q + 1) (by omega) (by omega) h with c | c
            · left; rw [c2_down hp' (by omega), c2_down hq' (by omega), cons_lt]; exact .inr ⟨e, c⟩
            · right; rw [c2_down hp' (by omega), c2_down hq' (by omega), e, c]
      · obtain ⟨s, hs⟩ := k2_head hp'
        obtain ⟨t, ht⟩ := k2_head hq'
        obtain ⟨s', hs'⟩ := c2_head hp'
        obtain ⟨t', ht'⟩ := c2_head hq'
        rw [hs, ht, cons_lt] at h
        left; rw [hs', ht', cons_lt]
        rcases h with h | ⟨h, _⟩
        · exact .inl h
        · exact absurd h e

theorem suf_of_c1 {l : List Nat} : ∀ (m p q : Nat), p + m = l.length → p < l.length → q < l.length → c1 l p < c1 l q → suf l p q := by
  intro m
  induction m with
  | zero => intro p q hp hp' _ _; omega
  | succ m ih =>
    intro p q hp hp' hq h
    by_cases e : buck l p = buck l q
    · have sl := (buck_eq e).2
      have a := slope_le l p
      by_cases s : slope l p = 1
      · rw [c1_up s, c1_up (show slope l q = 1 by omega), cons_lt] at h
        rcases h with h | ⟨_, h⟩
        · omega
        · have hp1 := slope_lt s
          have hq1 := slope_lt (show slope l q = 1 by omega)
          exact (buck_step hp' hq e).2 (ih (p + 1) (q + 1) (by omega) hp1 hq1 h)
      · rw [c1_start hp' (by omega), c1_start hq (by omega), e] at h; exact absurd h (lt_irr _)
    · obtain ⟨s', hs'⟩ := c1_head hp'
      obtain ⟨t', ht'⟩ := c1_head hq
      rw [hs', ht', cons_lt] at h
      rcases h with h | ⟨h, _⟩
      · exact buck_lt hp' hq h
      · exact absurd h e
theorem suf_of_c2 {l : List Nat} : ∀ (m p q : Nat), p + m = l.length → q ≤ l.length → c2 l p < c2 l q → suf l p q := by
  intro m
  induction m with
  | zero =>
    intro p q hp hq h
    by_cases e : q = l.length
    · rw [c2_end (show l.length ≤ q by omega)] at h; exact absurd h (not_lt_nil _)
    · unfold suf; rw [drop_last (by omega), drop_num (show q < l.length by omega)]; exact nil_lt _ _
  | succ m ih =>
    intro p q hp hq h
    by_cases e0 : q = l.length
    · rw [c2_end (show l.length ≤ q by omega)] at h; exact absurd h (not_lt_nil _)
    · have hp' : p < l.length := by omega
      have hq' : q < l.length := by omega
      by_cases e : buck l p = buck l q
      · have sl := (buck_eq e).2
        have a := slope_le l p
        by_cases s : slope l p = 1
        · rw [c2_up s, c2_up (by omega)] at h
          exact suf_of_c1 (l.length - p) p q (by omega) hp' hq' h
        · rw [c2_down hp' (by omega), c2_down hq' (by omega), cons_lt] at h
          rcases h with h | ⟨_, h⟩
          · omega
          · exact (buck_step hp' hq' e).2 (ih (p + 1) (q + 1) (by omega) (by omega) h)
      · obtain ⟨s', hs'⟩ := c2_head hp'
        obtain ⟨t', ht'⟩ := c2_head hq'
        rw [hs', ht', cons_lt] at h
        rcases h with h | ⟨h, _⟩
        · exact buck_lt hp' hq' h
        · exact absurd h e

/-- Two places have the same piece: up to the next start, which is as far from both. -/
structure Piece (l : List Nat) (p q k : Nat) : Prop where
  pos : 0 < k
  s1 : start l (p + k)
  s2 : start l (q + k)
  no : ∀ j, 0 < j → j < k → ¬ start l (p + j) ∧ ¬ start l (q + j)
  eq : ∀ j, j ≤ k → p + j < l.length ∧ q + j < l.length ∧ buck l (p + j) = buck l (q + j)

theorem piece_up {l : List Nat} {p q k : Nat} (h : Piece l (p + 1) (q + 1) k) (e : buck l p = buck l q) (n1 : ¬ start l (p + 1)) (n2 : ¬ start l (q + 1)) : Piece l p q (k + 1) := by
  refine ⟨by omega, by have := h.s1; rwa [show p + 1 + k = p + (k + 1) by omega] at this, by have := h.s2; rwa [show q + 1 + k = q + (k + 1) by omega] at this, ?_, ?_⟩
  · intro j h0 hj
    by_cases c : j = 1
    · subst c; exact ⟨n1, n2⟩
    · have := h.no (j - 1) (by omega) (by omega)
      rwa [show p + 1 + (j - 1) = p + j by omega, show q + 1 + (j - 1) = q + j by omega] at this
  · intro j hj
    by_cases c : j = 0
    · subst c
      have := h.eq 0 (by omega)
      exact ⟨by omega, by omega, e⟩
    · have := h.eq (j - 1) (by omega)
      rwa [show p + 1 + (j - 1) = p + j by omega, show q + 1 + (j - 1) = q + j by omega] at this
theorem piece_one {l : List Nat} {p q : Nat} (s1 : slope l p = 1) (s2 : slope l q = 1) (e : buck l p = buck l q) (e' : buck l (p + 1) = buck l (q + 1)) (s : slope l (p + 1) = 0) : Piece l p q 1 := by
  have a := slope_lt s1
  have b := slope_lt s2
  have c := (buck_eq e').2
  refine ⟨by omega, ⟨a, by omega, s, by simpa using s1⟩, ⟨b, by omega, by omega, by simpa using s2⟩, fun j _ _ => by omega, ?_⟩
  intro j hj
  by_cases d : j = 0
  · subst d; exact ⟨by omega, by omega, e⟩
  · have : j = 1 := by omega
    subst this; exact ⟨a, b, e'⟩
theorem piece_of_c1 {l : List Nat} : ∀ (m p q : Nat), p + m = l.length → slope l p = 1 → q < l.length → c1 l p = c1 l q → ∃ k, Piece l p q k := by
  intro m
  induction m with
  | zero => intro p q hp s _ _; have := slope_lt s; omega
  | succ m ih =>
    intro p q hp s hq h
    have hp1 := slope_lt s
    have e : buck l p = buck l q := by
      obtain ⟨x, hx⟩ := c1_head (show p < l.length by omega)
      obtain ⟨y, hy⟩ := c1_head hq
      rw [hx, hy] at h; exact (List.cons.inj h).1
    have sq : slope l q = 1 := by have := (buck_eq e).2; omega
    have hq1 := slope_lt sq
    rw [c1_up s, c1_up sq] at h
    have h' := (List.cons.inj h).2
    have e' : buck l (p + 1) = buck l (q + 1) := by
      obtain ⟨x, hx⟩ := c1_head hp1
      obtain ⟨y, hy⟩ := c1_head hq1
      rw [hx, hy] at h'; exact (List.cons.inj h').1
    have a := slope_le l (p + 1)
    by_cases s' : slope l (p + 1) = 1
    · obtain ⟨k, hk⟩ := ih (p + 1) (q + 1) (by omega) s' hq1 h'
      have := (buck_eq e').2
      exact ⟨k + 1, piece_up hk e (fun c => by have := c.2.2.1; omega) (fun c => by have := c.2.2.1; omega)⟩
    · exact ⟨1, piece_one s sq e e' (by omega)⟩
theorem piece_of_c2 {l : List Nat} : ∀ (m p q : Nat), p + m = l.length → p < l.length → slope l p = 0 → q < l.length → p ≠ q → c2 l p = c2 l q → ∃ k, Piece l p q k := by
  intro m
  induction m with
  | zero => intro p q hp hp' _ _ _ _; omega
  | succ m ih =>
    intro p q hp hp' s hq hne h
    have e : buck l p = buck l q := by
      obtain ⟨x, hx⟩ := c2_head hp'
      obtain ⟨y, hy⟩ := c2_head hq
      rw [hx, hy] at h; exact (List.cons.inj h).1
    have sq : slope l q = 0 := by have := (buck_eq e).2; omega
    rw [c2_down hp' s, c2_down hq sq] at h
    have h' := (List.cons.inj h).2
    have n1 : ¬ start l (p + 1) := fun c => by have := c.2.2.2; simp at this; omega
    have n2 : ¬ start l (q + 1) := fun c => by have := c.2.2.2; simp at this; omega
    by_cases c : p + 1 = l.length
    · rw [c2_end (show l.length ≤ p + 1 by omega)] at h'
      by_cases d : q + 1 = l.length
      · omega
      · obtain ⟨y, hy⟩ := c2_head (show q + 1 < l.length by omega)
        rw [hy] at h'; cases h'
    · by_cases d : q + 1 = l.length
      · obtain ⟨y, hy⟩ := c2_head (show p + 1 < l.length by omega)
        rw [c2_end (show l.length ≤ q + 1 by omega), hy] at h'; cases h'
      · have hp1 : p + 1 < l.length := by omega
        have hq1 : q + 1 < l.length := by omega
        have e' : buck l (p + 1) = buck l (q + 1) := by
          obtain ⟨x, hx⟩ := c2_head hp1
          obtain ⟨y, hy⟩ := c2_head hq1
          rw [hx, hy] at h'; exact (List.cons.inj h').1
        have sl := (buck_eq e').2
        have a := slope_le l (p + 1)
        by_cases s' : slope l (p + 1) = 1
        · rw [c2_up s', c2_up (by omega)] at h'
          obtain ⟨k, hk⟩ := piece_of_c1 (l.length - (p + 1)) (p + 1) (q + 1) (by omega) s' hq1 h'
          exact ⟨k + 1, piece_up hk e n1 n2⟩
        · obtain ⟨k, hk⟩ := ih (p + 1) (q + 1) (by omega) hp1 (by omega) hq1 (by omega) h'
          exact ⟨k + 1, piece_up hk e n1 n2⟩

/-- And back: steps that are the same up to a start make the same piece. -/
theorem c1_of_eq {l : List Nat} : ∀ (k p q : Nat), slope l p = 1 → (∀ j, j ≤ k → p + j < l.length ∧ q + j < l.length ∧ buck l (p + j) = buck l (q + j)) → 0 < k → start l (p + k) → c1 l p = c1 l q := by
  intro k
  induction k with
  | zero => intro p q _ _ h _; omega
  | succ k ih =>
    intro p q s h _ hs
    have h0 := h 0 (by omega)
    have h1 := h 1 (by omega)
    simp only [Nat.add_zero] at h0
    have sq : slope l q = 1 := by have := (buck_eq h0.2.2).2; omega
    rw [c1_up s, c1_up sq, h0.2.2]
    have a := slope_le l (p + 1)
    have sl := (buck_eq h1.2.2).2
    by_cases s' : slope l (p + 1) = 1
    · have hk : 0 < k := by
        by_cases c : k = 0
        · subst c; have := hs.2.2.1; simp at this; omega
        · omega
      rw [ih (p + 1) (q + 1) s' (fun j hj => by have := h (j + 1) (by omega); rwa [show p + (j + 1) = p + 1 + j by omega, show q + (j + 1) = q + 1 + j by omega] at this) hk (by rwa [show p + 1 + k = p + (k + 1) by omega])]
    · rw [c1_start h1.1 (by omega), c1_start h1.2.1 (by omega), h1.2.2]
theorem c2_of_eq {l : List Nat} : ∀ (k p q : Nat), slope l p = 0 → (∀ j, j ≤ k → p + j < l.length ∧ q + j < l.length ∧ buck l (p + j) = buck l (q + j)) → 0 < k → start l (p + k) → c2 l p = c2 l q := by
  intro k
  induction k with
  | zero => intro p q _ _ h _; omega
  | succ k ih =>
    intro p q s h _ hs
    have h0 := h 0 (by omega)
    have h1 := h 1 (by omega)
    simp only [Nat.add_zero] at h0
    have sq : slope l q = 0 := by have := (buck_eq h0.2.2).2; omega
    rw [c2_down h0.1 s, c2_down h0.2.1 sq, h0.2.2]
    have a := slope_le l (p + 1)
    have sl := (buck_eq h1.2.2).2
    have hk : 0 < k := by
      by_cases c : k = 0
      · subst c; have := hs.2.2.2; simp at this; omega
      · omega
    have h' : ∀ j, j ≤ k → p + 1 + j < l.length ∧ q + 1 + j < l.length ∧ buck l (p + 1 + j) = buck l (q + 1 + j) := fun j hj => by
      have := h (j + 1) (by omega)
      rwa [show p + (j + 1) = p + 1 + j by omega, show q + (j + 1) = q + 1 + j by omega] at this
    have hs' : start l (p + 1 + k) := by rwa [show p + 1 + k = p + (k + 1) by omega]
    by_cases s' : slope l (p + 1) = 1
    · rw [c2_up s', c2_up (by omega), c1_of_eq k (p + 1) (q + 1) s' h' hk hs']
    · rw [ih (p + 1) (q + 1) (by omega) h' hk hs']

/-- Is the piece at two places the same? -/
def same (l : List Nat) (p q : Nat) : Bool := decide (c2 l p = c2 l q)

theorem suf_add {l : List Nat} {p q : Nat} : ∀ (k : Nat), (∀ j, j < k → p + j < l.length ∧ q + j < l.length ∧ buck l (p + j) = buck l (q + j)) → (suf l p q ↔ suf l (p + k) (q + k)) := by
  intro k
  induction k with
  | zero => intro _; simp
  | succ k ih =>
    intro h
    have a := h k (by omega)
    rw [ih (fun j hj => h j (by omega))]
    exact buck_step a.1 a.2.1 a.2.2

theorem next_start {l : List Nat} {i k : Nat} (hi : i < (starts l).length) (hk : 0 < k) (hs : start l (num (starts l) i + k)) (no : ∀ j, 0 < j → j < k → ¬ start l (num (starts l) i + j)) :
    i + 1 < (starts l).length ∧ num (starts l) (i + 1) = num (starts l) i + k := by
  obtain ⟨a1, a2⟩ := idx_of_mem (mem_starts.2 hs)
  generalize hj : (starts l).idxOf (num (starts l) i + k) = j at a1 a2
  have asc : ∀ x y, x < y → (hx : y < (starts l).length) → num (starts l) x < num (starts l) y := by
    intro x y hxy hy
    have := List.pairwise_iff_getElem.1 (starts_asc l) x y (by omega) hy hxy
    rwa [← num_eq (by omega), ← num_eq hy] at this
  have hij : i < j := by
    by_cases c : i < j
    · exact c
    · by_cases d : j = i
      · subst d; omega
      · have := asc j i (by omega) hi; omega
  refine ⟨by omega, ?_⟩
  have b := asc i (i + 1) (by omega) (by omega)
  by_cases c : j = i + 1
  · rw [← c]; exact a2
  · have d := asc (i + 1) j (by omega) a1
    rw [a2] at d
    have e := mem_starts.1 (num_mem (show i + 1 < (starts l).length by omega))
    exact absurd (by rwa [show num (starts l) i + (num (starts l) (i + 1) - num (starts l) i) = num (starts l) (i + 1) by omega]) (no (num (starts l) (i + 1) - num (starts l) i) (by omega) (by omega))

/-- The starts, sorted by pieces. -/
theorem sorted_pieces {l o : List Nat} (ho : o.Pairwise (fun p q => k2 l p < k2 l q)) (hm : ∀ p, p ∈ o ↔ p < l.length) :
    Sorted (c2 l) (same l) (o.filter (isSt l)) ∧ ∀ p, p ∈ o.filter (isSt l) ↔ start l p := by
  have hp := ho.filter (isSt l)
  have nd := nodup_of_irr (fun x => lt_irr _) hp
  have mem : ∀ p, p ∈ o.filter (isSt l) ↔ start l p := by
    intro p
    rw [List.mem_filter, hm]
    constructor
    · rintro ⟨a, b⟩; exact (isSt_iff a).1 b
    · intro h; exact ⟨h.1, (isSt_iff h.1).2 h⟩
  refine ⟨⟨nd, ?_, fun i hi => by simp [same]⟩, mem⟩
  intro i j hij hj
  have a := List.pairwise_iff_getElem.1 hp i j (by omega) hj hij
  rw [← num_eq (by omega), ← num_eq hj] at a
  have b := (mem _).1 (num_mem (show i < (o.filter (isSt l)).length by omega))
  have c := (mem _).1 (num_mem hj)
  exact c2_of_k2 (l.length - num (o.filter (isSt l)) i) _ _ (by have := b.1; omega) (by have := c.1; omega) a

/-- The smaller row: the names of the starts, by rising places: its ends are ordered as the starts' are. -/
def shorter (l s : List Nat) : List Nat := (starts l).map (nameOf (same l) s)
theorem shorter_length (l s : List Nat) : (shorter l s).length = (starts l).length := by simp [shorter]
theorem shorter_num {l s : List Nat} {i : Nat} (h : i < (starts l).length) : num (shorter l s) i = nameOf (same l) s (num (starts l) i) := by
  simp [num, shorter, List.getD, h]
theorem shorter_suf {l s : List Nat} (hs : Sorted (c2 l) (same l) s) (hm : ∀ p, p ∈ s ↔ start l p) :
    ∀ (m i j : Nat), i + m = (starts l).length → i < (starts l).length → j < (starts l).length → i ≠ j →
      (suf (shorter l s) i j ↔ suf l (num (starts l) i) (num (starts l) j)) := by
  intro m
  induction m with
  | zero => intro i j h1 h2 _ _; omega
  | succ m ih =>
    intro i j h1 hi hj hne
    have si := mem_starts.1 (num_mem hi)
    have sj := mem_starts.1 (num_mem hj)
    have ne : num (starts l) i ≠ num (starts l) j := by
      intro e
      have a := idx_num (starts_nodup l) hi
      have b := idx_num (starts_nodup l) hj
      rw [e, b] at a; exact hne a.symm
    have xi : (shorter l s).drop i = nameOf (same l) s (num (starts l) i) :: (shorter l s).drop (i + 1) := by
      rw [drop_num (by rw [shorter_length]; exact hi), shorter_num hi]
    have xj : (shorter l s).drop j = nameOf (same l) s (num (starts l) j) :: (shorter l s).drop (j + 1) := by
      rw [drop_num (by rw [shorter_length]; exact hj), shorter_num hj]
    have le := hs.name_lt ((hm _).2 si) ((hm _).2 sj)
    have ge := hs.name_lt ((hm _).2 sj) ((hm _).2 si)
    have eq := hs.name_eq ((hm _).2 si) ((hm _).2 sj)
    unfold suf at *
    rw [xi, xj, cons_lt]
    rcases Nat.lt_trichotomy (nameOf (same l) s (num (starts l) i)) (nameOf (same l) s (num (starts l) j)) with c | c | c
    · have := suf_of_c2 (l.length - num (starts l) i) _ _ (by have := si.1; omega) (by have := sj.1; omega) (le.1 c)
      exact ⟨fun _ => this, fun _ => .inl c⟩
    · obtain ⟨k, hk⟩ := piece_of_c2 (l.length - num (starts l) i) _ _ (by have := si.1; omega) si.1 si.2.2.1 sj.1 ne (eq.1 c)
      obtain ⟨a1, a2⟩ := next_start hi hk.pos hk.s1 (fun j h0 h1 => (hk.no j h0 h1).1)
      obtain ⟨b1, b2⟩ := next_start hj hk.pos hk.s2 (fun j h0 h1 => (hk.no j h0 h1).2)
      have := ih (i + 1) (j + 1) (by omega) a1 b1 (by omega)
      have sa := suf_add (l := l) (p := num (starts l) i) (q := num (starts l) j) k (fun j hj => hk.eq j (by omega))
      unfold suf at sa
      rw [sa, ← a2, ← b2, ← this]
      constructor
      · rintro (d | ⟨_, d⟩)
        · omega
        · exact d
      · intro d; exact .inr ⟨c, d⟩
    · have := suf_of_c2 (l.length - num (starts l) j) _ _ (by have := sj.1; omega) (by have := si.1; omega) (ge.1 c)
      unfold suf at this
      constructor
      · rintro (d | ⟨d, _⟩) <;> omega
      · intro d; exact absurd d (lt_as this)

/-- The places of all ends, in the ends' order. -/
def IsSA (l o : List Nat) : Prop := o.Pairwise (suf l) ∧ ∀ p, p ∈ o ↔ p < l.length

theorem IsSA.nodup {l o : List Nat} (h : IsSA l o) : o.Nodup := nodup_of_irr (fun _ => lt_irr _) h.1
theorem IsSA.length {l o : List Nat} (h : IsSA l o) : o.length = l.length := by
  have a := h.nodup.length_le_of_subset (l₂ := List.range l.length) (fun x hx => List.mem_range.2 ((h.2 x).1 hx))
  have b := (List.nodup_range (n := l.length)).length_le_of_subset (l₂ := o) (fun x hx => (h.2 x).2 (List.mem_range.1 hx))
  simp only [List.length_range] at a b
  omega
/-- Two lists that are sorted strictly and hold the same are one. -/
theorem sorted_unique {R : Nat → Nat → Prop} (irr : ∀ x, ¬ R x x) (as : ∀ x y, R x y → ¬ R y x) : ∀ (a b : List Nat), a.Pairwise R → b.Pairwise R → (∀ x, x ∈ a ↔ x ∈ b) → a = b
  | [], [], _, _, _ => rfl
  | [], y :: b, _, _, h => by have := (h y).2 (by simp); simp at this
  | x :: a, [], _, _, h => by have := (h x).1 (by simp); simp at this
  | x :: a, y :: b, ha, hb, h => by
    rw [List.pairwise_cons] at ha hb
    have e : x = y := by
      have h1 := (h x).1 (by simp)
      have h2 := (h y).2 (by simp)
      rcases List.mem_cons.1 h1 with c | c
      · exact c
      · rcases List.mem_cons.1 h2 with d | d
        · exact d.symm
        · exact absurd (ha.1 y d) (as _ _ (hb.1 x c))
    subst e
    refine congrArg (x :: ·) (sorted_unique irr as a b ha.2 hb.2 fun z => ?_)
    have hz := h z
    rw [List.mem_cons, List.mem_cons] at hz
    constructor
    · intro c
      rcases hz.1 (.inr c) with d | d
      · subst d; exact absurd (ha.1 z c) (irr z)
      · exact d
    · intro c
      rcases hz.2 (.inr c) with d | d
      · subst d; exact absurd (hb.1 z c) (irr z)
      · exact d
theorem IsSA.unique {l a b : List Nat} (ha : IsSA l a) (hb : IsSA l b) : a = b :=
  sorted_unique (R := suf l) (fun _ => lt_irr _) (fun _ _ h => lt_as h) a b ha.1 hb.1 (fun x => by rw [ha.2, hb.2])

/-- The starts sorted, where each piece has a name of its own. -/
theorem starts_by_pieces {l s : List Nat} (hs : Sorted (c2 l) (same l) s) (hm : ∀ p, p ∈ s ↔ start l p) (hk : kindsOf (same l) s = s.length) : s.Pairwise (suf l) := by
  refine (hs.strict hk).imp_of_mem ?_
  intro a b ha hb h
  have := ((hm a).1 ha).1
  have := ((hm b).1 hb).1
  exact suf_of_c2 (l.length - a) a b (by omega) (by omega) h
/-- The starts sorted by the ends of the smaller row. -/
theorem starts_by_row {l s o : List Nat} (hs : Sorted (c2 l) (same l) s) (hm : ∀ p, p ∈ s ↔ start l p) (ho : IsSA (shorter l s) o) :
    (o.map (num (starts l))).Pairwise (suf l) ∧ ∀ p, p ∈ o.map (num (starts l)) ↔ start l p := by
  have hl := shorter_length l s
  constructor
  · rw [List.pairwise_map]
    refine (List.Pairwise.and ho.1 ho.nodup).imp_of_mem ?_
    intro a b ha hb h
    have a1 := (ho.2 a).1 ha
    have b1 := (ho.2 b).1 hb
    rw [hl] at a1 b1
    exact (shorter_suf hs hm ((starts l).length - a) a b (by omega) a1 b1 h.2).1 h.1
  · intro p
    rw [List.mem_map]
    constructor
    · rintro ⟨i, hi, rfl⟩
      have := (ho.2 i).1 hi
      rw [hl] at this
      exact mem_starts.1 (num_mem this)
    · intro h
      obtain ⟨a1, a2⟩ := idx_of_mem (mem_starts.2 h)
      exact ⟨_, (ho.2 _).2 (by rw [hl]; exact a1), a2⟩
theorem sorted_length {l s : List Nat} (nd : s.Nodup) (hm : ∀ p, p ∈ s ↔ start l p) : s.length = (starts l).length := by
  have a := nd.length_le_of_subset (l₂ := starts l) (fun x hx => mem_starts.2 ((hm x).1 hx))
  have b := (starts_nodup l).length_le_of_subset (l₂ := s) (fun x hx => (hm x).2 (mem_starts.1 hx))
  omega
end Sedge

/- Plain mathematics: buckets as pieces of one row. -/
namespace Sedge

/-- Where a bucket begins: the sizes of those ahead of it. -/
def ps (sz : Nat → Nat) : Nat → Nat
  | 0 => 0
  | c + 1 => ps sz c + sz c
theorem ps_mono (sz : Nat → Nat) {a b : Nat} (h : a ≤ b) : ps sz a ≤ ps sz b := by
  induction b with
  | zero => have : a = 0 := by omega
            subst this; exact Nat.le_refl _
  | succ b ih =>
    by_cases e : a = b + 1
    · subst e; exact Nat.le_refl _
    · have := ih (by omega); simp only [ps]; omega
theorem ps_next (sz : Nat → Nat) {a b : Nat} (h : a < b) : ps sz a + sz a ≤ ps sz b := ps_mono sz (show a + 1 ≤ b by omega)
theorem ps_congr {sz sz' : Nat → Nat} {K : Nat} (h : ∀ c, c < K → sz c = sz' c) : ps sz K = ps sz' K := by
  induction K with
  | zero => rfl
  | succ K ih => simp only [ps]; rw [ih (fun c hc => h c (by omega)), h K (by omega)]

/-- How many of a list belong into a bucket. -/
def part (β : Nat → Nat) (l : List Nat) (c : Nat) : List Nat := l.filter fun p => β p == c
def cnt (β : Nat → Nat) (l : List Nat) (c : Nat) : Nat := (part β l c).length
theorem part_nil (β : Nat → Nat) : part β [] = fun _ => [] := by funext c; simp [part]
theorem take_num {l : List Nat} {k : Nat} (h : k < l.length) : l.take (k + 1) = l.take k ++ [num l k] := by
  rw [List.take_succ_eq_append_getElem h, num_eq h]
theorem part_take {β : Nat → Nat} {l : List Nat} {k : Nat} (h : k < l.length) : part β (l.take (k + 1)) = push (part β (l.take k)) (β (num l k)) (num l k) := by
  funext c
  unfold part push
  rw [take_num h, List.filter_append]
  by_cases e : β (num l k) = c
  · simp [e]
  · have e' : ¬ c = β (num l k) := fun x => e x.symm
    simp [e, e']
theorem cnt_take {β : Nat → Nat} {l : List Nat} {k : Nat} (h : k < l.length) (c : Nat) : cnt β (l.take (k + 1)) c = if c = β (num l k) then cnt β (l.take k) c + 1 else cnt β (l.take k) c := by
  unfold cnt; rw [part_take h]; unfold push
  split
  · rename_i e; simp [e]
  · rfl
theorem cnt_le (β : Nat → Nat) (l : List Nat) (c : Nat) : cnt β l c ≤ l.length := List.length_filter_le _ _
theorem cnt_take_le (β : Nat → Nat) (l : List Nat) (k c : Nat) : cnt β (l.take k) c ≤ cnt β l c := by
  unfold cnt part
  exact (List.Sublist.filter _ (List.take_sublist k l)).length_le
theorem cnt_take_lt {β : Nat → Nat} {l : List Nat} {k : Nat} (h : k < l.length) : cnt β (l.take k) (β (num l k)) < cnt β l (β (num l k)) := by
  have a := cnt_take (β := β) h (β (num l k))
  have b := cnt_take_le β l (k + 1) (β (num l k))
  rw [if_pos rfl] at a
  omega
theorem filter_split (β : Nat → Nat) (K : Nat) : ∀ (l : List Nat), (l.filter fun p => decide (β p < K)).length + (l.filter fun p => β p == K).length = (l.filter fun p => decide (β p < K + 1)).length
  | [] => rfl
  | x :: l => by
    have ih := filter_split β K l
    simp only [List.filter_cons]
    by_cases a : β x < K
    · have b : ¬ β x = K := by omega
      have c : β x < K + 1 := by omega
      simp [a, b, c]; omega
    · by_cases b : β x = K
      · simp [b]; omega
      · have c : ¬ β x < K + 1 := by omega
        simp [a, b, c]; omega
theorem ps_cnt_lt (β : Nat → Nat) (l : List Nat) (K : Nat) : ps (cnt β l) K = (l.filter fun p => decide (β p < K)).length := by
  induction K with
  | zero => rw [List.filter_eq_nil_iff.2 (by simp)]; rfl
  | succ K ih => rw [← filter_split, ← ih]; rfl
theorem ps_cnt {β : Nat → Nat} {l : List Nat} {K : Nat} (h : ∀ p ∈ l, β p < K) : ps (cnt β l) K = l.length := by
  rw [ps_cnt_lt, List.filter_eq_self.2 (fun p hp => by simpa using h p hp)]

/-- Buckets that are full make up the row. -/
theorem flat_succ (f : Nat → List Nat) (K : Nat) : flat f (K + 1) = flat f K ++ f K := by simp [flat, List.range_succ]
theorem flat_row {f : Nat → List Nat} {o : List Nat} : ∀ {K : Nat}, ps (fun c => (f c).length) K ≤ o.length → (∀ c, c < K → ∀ i, i < (f c).length → num o (ps (fun c => (f c).length) c + i) = num (f c) i) → o.take (ps (fun c => (f c).length) K) = flat f K := by
  intro K
  induction K with
  | zero => intro _ _; simp [ps, flat]
  | succ K ih =>
    intro hl h
    simp only [ps] at hl
    have a := ih (by omega) (fun c hc => h c (by omega))
    rw [flat_succ, ← a]
    simp only [ps]
    rw [List.take_add]
    congr 1
    apply List.ext_getElem
    · simp; omega
    · intro i h1 h2
      have b := h K (by omega) i h2
      rw [num_eq h2, num_eq (by omega)] at b
      simp [← b]
theorem flat_length {f : Nat → List Nat} (K : Nat) : (flat f K).length = ps (fun c => (f c).length) K := by
  induction K with
  | zero => simp [flat, ps]
  | succ K ih => rw [flat_succ]; simp [ps, ih]
theorem flat_row_all {f : Nat → List Nat} {o : List Nat} {K : Nat} (hl : ps (fun c => (f c).length) K = o.length) (h : ∀ c, c < K → ∀ i, i < (f c).length → num o (ps (fun c => (f c).length) c + i) = num (f c) i) : o = flat f K := by
  have := flat_row (K := K) (by omega) h
  rwa [hl, List.take_length] at this
theorem mem_flat {f : Nat → List Nat} {K x : Nat} : x ∈ flat f K ↔ ∃ c, c < K ∧ x ∈ f c := by simp [flat, List.mem_flatMap]
end Sedge

/- Plain mathematics: dealing keeps an order among equals; ends sorted by twice as many numbers. -/
namespace Sedge

/-- Dealt by β: first by β, among equals as they lay. -/
theorem flat_part_pairwise {β : Nat → Nat} {R : Nat → Nat → Prop} {l : List Nat} (h : l.Pairwise R) (K : Nat) :
    (flat (part β l) K).Pairwise (fun a b => β a < β b ∨ (β a = β b ∧ R a b)) := by
  induction K with
  | zero => exact List.Pairwise.nil
  | succ K ih =>
    rw [flat_succ]
    refine List.pairwise_append.2 ⟨ih, ?_, ?_⟩
    · unfold part
      refine List.Pairwise.imp_of_mem (fun {a b} ha hb hab => ?_) (h.filter (fun p => β p == K))
      have e1 : β a = K := by simpa using (List.mem_filter.1 ha).2
      have e2 : β b = K := by simpa using (List.mem_filter.1 hb).2
      exact Or.inr ⟨by omega, hab⟩
    · intro a ha b hb
      obtain ⟨c, hc, hac⟩ := mem_flat.1 ha
      have e1 : β a = c := by simpa using (List.mem_filter.1 hac).2
      have e2 : β b = K := by simpa using (List.mem_filter.1 hb).2
      exact Or.inl (by omega)

theorem mem_flat_part {β : Nat → Nat} {l : List Nat} {K : Nat} (hK : ∀ p, p ∈ l → β p < K) (p : Nat) : p ∈ flat (part β l) K ↔ p ∈ l := by
  rw [mem_flat]
  constructor
  · rintro ⟨c, _, h⟩; exact (List.mem_filter.1 h).1
  · intro h; exact ⟨β p, hK p h, List.mem_filter.2 ⟨h, by simp⟩⟩

/-- The first h numbers of the end at p. -/
def kh (l : List Nat) (h p : Nat) : List Nat := (l.drop p).take h

theorem kh_end {l : List Nat} {h p : Nat} (hp : l.length ≤ p) : kh l h p = [] := by simp [kh, List.drop_of_length_le hp]
theorem kh_double (l : List Nat) (h p : Nat) : kh l (h + h) p = kh l h p ++ kh l h (p + h) := by
  unfold kh
  rw [List.take_add, List.drop_drop]
theorem kh_full {l : List Nat} {h p : Nat} (hh : l.length ≤ h) : kh l h p = l.drop p := by
  unfold kh
  exact List.take_of_length_le (by simp; omega)

theorem lt_take : ∀ (h : Nat) (a b : List Nat), a.take h < b.take h → a < b
  | 0, a, b, k => by simp at k
  | h + 1, [], [], k => by simp at k
  | h + 1, [], b :: bs, _ => List.nil_lt_cons b bs
  | h + 1, a :: as, [], k => by simp at k
  | h + 1, a :: as, b :: bs, k => by
    simp only [List.take_succ_cons, List.cons_lt_cons_iff] at k ⊢
    rcases k with k | ⟨e, k⟩
    · exact Or.inl k
    · exact Or.inr ⟨e, lt_take h as bs k⟩

theorem lt_halves : ∀ (h : Nat) (a b x y : List Nat), b.length ≤ h → (a.length = h ∨ x = []) → a < b → a ++ x < b ++ y
  | h, [], [], x, y, _, _, k => by simp at k
  | h, [], b :: bs, x, y, hb, ha, _ => by
    rcases ha with ha | rfl
    · simp at ha hb; omega
    · exact List.nil_lt_cons b _
  | h, a :: as, [], x, y, _, _, k => by simp at k
  | 0, a :: as, b :: bs, x, y, hb, _, _ => by simp at hb
  | h + 1, a :: as, b :: bs, x, y, hb, ha, k => by
    simp only [List.cons_append, List.cons_lt_cons_iff] at k ⊢
    rcases k with k | ⟨e, k⟩
    · exact Or.inl k
    · exact Or.inr ⟨e, lt_halves h as bs x y (by simpa using hb) (by simpa using ha) k⟩

theorem kh_len (l : List Nat) (h p : Nat) : (kh l h p).length ≤ h := by simp [kh]; omega
theorem kh_or (l : List Nat) (h p : Nat) : (kh l h p).length = h ∨ kh l h (p + h) = [] := by
  by_cases c : p + h ≤ l.length
  · exact Or.inl (by simp [kh]; omega)
  · exact Or.inr (kh_end (by omega))

theorem kh_double_eq {l : List Nat} {h p q : Nat} : kh l (h + h) p = kh l (h + h) q ↔ kh l h p = kh l h q ∧ kh l h (p + h) = kh l h (q + h) := by
  constructor
  · intro e
    have e1 : (kh l (h + h) p).take h = (kh l (h + h) q).take h := by rw [e]
    have e2 : (kh l (h + h) p).drop h = (kh l (h + h) q).drop h := by rw [e]
    unfold kh at *
    rw [List.take_take, List.take_take, Nat.min_eq_left (by omega)] at e1
    refine ⟨e1, ?_⟩
    rw [List.drop_take, List.drop_take, List.drop_drop, List.drop_drop, Nat.add_sub_cancel] at e2
    exact e2
  · rintro ⟨e1, e2⟩
    rw [kh_double, kh_double, e1, e2]

theorem kh_double_lt {l : List Nat} {h p q : Nat} (H : kh l h p < kh l h q ∨ (kh l h p = kh l h q ∧ kh l h (p + h) < kh l h (q + h))) : kh l (h + h) p < kh l (h + h) q := by
  rw [kh_double, kh_double]
  rcases H with H | ⟨e, H⟩
  · exact lt_halves h _ _ _ _ (kh_len l h q) (kh_or l h p) H
  · rw [e]; exact List.append_left_lt H

/-- The rank of a place, from 1 on; 0 behind the last. -/
def rk (r : List Nat) (p : Nat) : Nat := if p < r.length then num r p + 1 else 0

/-- Ranks r stand for the order by the first h numbers. -/
structure Ranks (l : List Nat) (h : Nat) (r : List Nat) : Prop where
  len : r.length = l.length
  eq : ∀ p q, p < l.length → q < l.length → (num r p = num r q ↔ kh l h p = kh l h q)
  lt : ∀ p q, p < l.length → q < l.length → (num r p < num r q ↔ kh l h p < kh l h q)

theorem kh_ne {l : List Nat} {h p : Nat} (h0 : 0 < h) (hp : p < l.length) : kh l h p ≠ [] := by
  intro e
  have : (kh l h p).length = 0 := by rw [e]; rfl
  simp [kh] at this
  omega

theorem Ranks.rk_eq {l r : List Nat} {h : Nat} (R : Ranks l h r) (h0 : 0 < h) (p q : Nat) : rk r p = rk r q ↔ kh l h p = kh l h q := by
  unfold rk
  rw [R.len]
  by_cases hp : p < l.length <;> by_cases hq : q < l.length
  · rw [if_pos hp, if_pos hq, ← R.eq p q hp hq]; omega
  · rw [if_pos hp, if_neg hq, kh_end (show l.length ≤ q by omega)]
    exact ⟨fun e => by omega, fun e => absurd e (kh_ne h0 hp)⟩
  · rw [if_neg hp, if_pos hq, kh_end (show l.length ≤ p by omega)]
    exact ⟨fun e => by omega, fun e => absurd e.symm (kh_ne h0 hq)⟩
  · rw [if_neg hp, if_neg hq, kh_end (show l.length ≤ p by omega), kh_end (show l.length ≤ q by omega)]
    simp

theorem Ranks.rk_lt {l r : List Nat} {h : Nat} (R : Ranks l h r) (h0 : 0 < h) (p q : Nat) (H : rk r p < rk r q) : kh l h p < kh l h q := by
  unfold rk at H
  rw [R.len] at H
  by_cases hp : p < l.length <;> by_cases hq : q < l.length
  · rw [if_pos hp, if_pos hq] at H; exact (R.lt p q hp hq).1 (by omega)
  · rw [if_pos hp, if_neg hq] at H; omega
  · rw [kh_end (show l.length ≤ p by omega)]
    obtain ⟨a, as, e⟩ := List.exists_cons_of_ne_nil (kh_ne h0 hq)
    rw [e]; exact List.nil_lt_cons a as
  · rw [if_neg hp, if_neg hq] at H; omega

/-- An order by the first h numbers: all places, each once. -/
structure ByH (l : List Nat) (h : Nat) (sm : Nat → Nat → Bool) (o : List Nat) : Prop where
  srt : Sorted (kh l h) sm o
  mem : ∀ p, p ∈ o ↔ p < l.length

theorem ByH.length {l o : List Nat} {h : Nat} {sm : Nat → Nat → Bool} (B : ByH l h sm o) : o.length = l.length := by
  have e : o.Perm (List.range l.length) := by
    rw [List.perm_ext_iff_of_nodup B.srt.nd List.nodup_range]
    intro p; rw [B.mem, List.mem_range]
  simpa using e.length_eq

theorem num_range_map {n : Nat} {f : Nat → Nat} {p : Nat} (h : p < n) : num ((List.range n).map f) p = f p := by simp [num, List.getD, h]

theorem ByH.ranks {l o : List Nat} {h : Nat} {sm : Nat → Nat → Bool} (B : ByH l h sm o) : Ranks l h ((List.range l.length).map (nameOf sm o)) where
  len := by simp
  eq := fun p q hp hq => by
    rw [num_range_map hp, num_range_map hq]
    exact B.srt.name_eq ((B.mem p).2 hp) ((B.mem q).2 hq)
  lt := fun p q hp hq => by
    rw [num_range_map hp, num_range_map hq]
    exact B.srt.name_lt ((B.mem p).2 hp) ((B.mem q).2 hq)

theorem sorted_of_pairwise {K : Nat → List Nat} {sm : Nat → Nat → Bool} {o : List Nat} (h : o.Pairwise fun a b => (K a < K b ∨ K a = K b) ∧ a ≠ b) (hs : ∀ a b, a ∈ o → b ∈ o → (sm a b = true ↔ K a = K b)) : Sorted K sm o where
  nd := List.Pairwise.imp (fun h => h.2) h
  le := fun i j hij hj => by
    rw [num_eq (show i < o.length by omega), num_eq hj]
    exact (List.pairwise_iff_getElem.1 h i j (by omega) hj hij).1
  same := fun i hi => hs _ _ (num_mem (by omega)) (num_mem hi)

/-- Twice as many numbers. -/
theorem Ranks.step {l o r : List Nat} {h : Nat} {sm : Nat → Nat → Bool} (R : Ranks l h r) (h0 : 0 < h) {K : Nat} (hK : ∀ p, rk r p < K) (B : ByH l h sm o) :
    ByH l (h + h) (fun a b => decide (rk r a = rk r b ∧ rk r (a + h) = rk r (b + h))) (flat (part (fun p => rk r p) (flat (part (fun p => rk r (p + h)) o) K)) K) where
  srt := by
    have p0 : o.Pairwise (fun a b => a ≠ b) := B.srt.nd
    have p1 := flat_part_pairwise (β := fun p => rk r (p + h)) p0 K
    have p2 := flat_part_pairwise (β := fun p => rk r p) p1 K
    refine sorted_of_pairwise (p2.imp fun {a b} hab => ?_) (fun a b _ _ => ?_)
    · rcases hab with c | ⟨e, c | ⟨e', c⟩⟩
      · exact ⟨Or.inl (kh_double_lt (Or.inl (R.rk_lt h0 _ _ c))), fun x => by subst x; omega⟩
      · exact ⟨Or.inl (kh_double_lt (Or.inr ⟨(R.rk_eq h0 _ _).1 e, R.rk_lt h0 _ _ c⟩)), fun x => by subst x; omega⟩
      · exact ⟨Or.inr (kh_double_eq.2 ⟨(R.rk_eq h0 _ _).1 e, (R.rk_eq h0 _ _).1 e'⟩), c⟩
    · rw [decide_eq_true_eq, kh_double_eq, R.rk_eq h0, R.rk_eq h0]
  mem := fun p => by
    rw [mem_flat_part (fun p _ => hK _), mem_flat_part (fun p _ => hK _), B.mem]

/-- The first one. -/
theorem byH_one {l : List Nat} {K : Nat} (hK : ∀ p, p < l.length → num l p < K) :
    ByH l 1 (fun a b => decide (num l a = num l b)) (flat (part (num l) (List.range l.length)) K) where
  srt := by
    have p0 : (List.range l.length).Pairwise (fun a b => a ≠ b) := List.nodup_range
    have p1 := flat_part_pairwise (β := num l) p0 K
    have one : ∀ p, p < l.length → kh l 1 p = [num l p] := fun p hp => by
      unfold kh; rw [drop_num hp]; simp
    have hm : ∀ p, p ∈ flat (part (num l) (List.range l.length)) K → p < l.length := fun p hp => by
      have := (mem_flat_part (β := num l) (l := List.range l.length) (K := K) (fun p hp => hK p (List.mem_range.1 hp)) p).1 hp
      exact List.mem_range.1 this
    refine sorted_of_pairwise (List.Pairwise.imp_of_mem (fun {a b} ha hb hab => ?_) p1) (fun a b ha hb => ?_)
    · rw [one a (hm a ha), one b (hm b hb)]
      rcases hab with c | ⟨e, c⟩
      · exact ⟨Or.inl (by simp [List.cons_lt_cons_iff, c]), fun x => by subst x; omega⟩
      · exact ⟨Or.inr (by rw [e]), c⟩
    · rw [decide_eq_true_eq, one a (hm a ha), one b (hm b hb)]; simp
  mem := fun p => by
    rw [mem_flat_part (fun p hp => hK p (List.mem_range.1 hp)), List.mem_range]

/-- Where every name is another's, the ends are sorted. -/
theorem ByH.done {l o : List Nat} {h : Nat} {sm : Nat → Nat → Bool} (B : ByH l h sm o) (hk : kindsOf sm o = o.length) : IsSA l o :=
  ⟨(B.srt.strict hk).imp fun hab => lt_take h _ _ hab, B.mem⟩

/-- By as many numbers as there are, every name is another's. -/
theorem ByH.full {l o : List Nat} {h : Nat} {sm : Nat → Nat → Bool} (B : ByH l h sm o) (hh : l.length ≤ h) : kindsOf sm o = o.length := by
  by_cases h0 : o.length = 0
  · simp [kindsOf, h0]
  · have key : ∀ i, i < o.length → nm sm o i = i := by
      intro i
      induction i with
      | zero => intro _; have := nm_le sm o 0; omega
      | succ i ih =>
        intro hi
        have e := ih (by omega)
        have hl := B.length
        have m1 := (B.mem _).1 (num_mem (show i < o.length by omega))
        have m2 := (B.mem _).1 (num_mem hi)
        have ne : num o i ≠ num o (i + 1) := fun x => by
          have := idx_num B.srt.nd (show i < o.length by omega)
          rw [x, idx_num B.srt.nd hi] at this; omega
        have lt := B.srt.nm_lt (i := i) (j := i + 1) (by omega) hi
        have le := B.srt.le i (i + 1) (by omega) hi
        rcases le with c | c
        · have := lt.2 c; have := nm_le sm o (i + 1); omega
        · rw [kh_full hh, kh_full hh] at c
          have := congrArg List.length c
          simp at this; omega
    unfold kindsOf
    rw [if_neg h0, key _ (by omega)]; omega
end Sedge

/- Plain mathematics: two sorted lists merged. -/
namespace Sedge

theorem suf_tri {l : List Nat} {p q : Nat} (hp : p < l.length) (hq : q < l.length) (hne : p ≠ q) : suf l p q ∨ suf l q p := by
  rcases lt_tri (l.drop p) (l.drop q) with c | c | c
  · exact .inl c
  · have := congrArg List.length c; simp at this; omega
  · exact .inr c

/-- How far merging has come: what is out, what is left of both. -/
structure Merging (l P out a b : List Nat) : Prop where
  pw : out.Pairwise (suf l)
  pa : a.Pairwise (suf l)
  pb : b.Pairwise (suf l)
  oa : ∀ x ∈ out, ∀ y ∈ a, suf l x y
  ob : ∀ x ∈ out, ∀ y ∈ b, suf l x y
  ne : ∀ x ∈ a, ∀ y ∈ b, x ≠ y
  mem : ∀ p, p ∈ P ↔ p ∈ out ∨ p ∈ a ∨ p ∈ b
  len : out.length + a.length + b.length = P.length
  lt : ∀ p ∈ P, p < l.length
section
variable {l P out a b : List Nat} {x y : Nat}
theorem Merging.left (h : Merging l P out (x :: a) (y :: b)) (hs : suf l x y) : Merging l P (out ++ [x]) a (y :: b) := by
  have pa := List.pairwise_cons.1 h.pa
  have pb := List.pairwise_cons.1 h.pb
  refine ⟨?_, pa.2, h.pb, ?_, ?_, fun u hu v hv => h.ne u (by simp [hu]) v hv, ?_, ?_, h.lt⟩
  · rw [List.pairwise_append]
    exact ⟨h.pw, by simp, fun u hu v hv => by
      have : v = x := by simpa using hv
      subst this; exact h.oa u hu v (by simp)⟩
  · intro u hu v hv
    rw [List.mem_append] at hu
    rcases hu with hu | hu
    · exact h.oa u hu v (by simp [hv])
    · have : u = x := by simpa using hu
      subst this; exact pa.1 v hv
  · intro u hu v hv
    rw [List.mem_append] at hu
    rcases hu with hu | hu
    · exact h.ob u hu v hv
    · have : u = x := by simpa using hu
      subst this
      rcases List.mem_cons.1 hv with e | e
      · subst e; exact hs
      · exact lt_tr hs (pb.1 v e)
  · intro p; rw [h.mem]; simp only [List.mem_append, List.mem_cons, List.not_mem_nil, or_false]
    constructor
    · rintro (c | (c | c) | c)
      · exact .inl (.inl c)
      · exact .inl (.inr c)
      · exact .inr (.inl c)
      · exact .inr (.inr c)
    · rintro ((c | c) | c | c)
      · exact .inl c
      · exact .inr (.inl (.inl c))
      · exact .inr (.inl (.inr c))
      · exact .inr (.inr c)
  · have := h.len; simp at this ⊢; omega
theorem Merging.swap (h : Merging l P out a b) : Merging l P out b a :=
  ⟨h.pw, h.pb, h.pa, h.ob, h.oa, fun x hx y hy e => h.ne y hy x hx e.symm, fun p => by rw [h.mem]; constructor <;> rintro (c | c | c) <;> simp [c], by have := h.len; omega, h.lt⟩
theorem Merging.right (h : Merging l P out (x :: a) (y :: b)) (hs : ¬ suf l x y) : Merging l P (out ++ [y]) (x :: a) b := by
  refine (h.swap.left ?_).swap
  have hx := h.lt x ((h.mem x).2 (by simp))
  have hy := h.lt y ((h.mem y).2 (by simp))
  rcases suf_tri hx hy (h.ne x (by simp) y (by simp)) with c | c
  · exact absurd c hs
  · exact c
/-- Where one is used up: what is out, and all that is left. -/
theorem Merging.done (h : Merging l P out a b) (he : a = [] ∨ b = []) : (out ++ a ++ b).Pairwise (suf l) ∧ (∀ p, p ∈ out ++ a ++ b ↔ p ∈ P) ∧ (out ++ a ++ b).length = P.length := by
  refine ⟨?_, fun p => by rw [h.mem]; simp, by have := h.len; simp; omega⟩
  rw [List.pairwise_append, List.pairwise_append]
  refine ⟨⟨h.pw, h.pa, h.oa⟩, h.pb, fun u hu v hv => ?_⟩
  rw [List.mem_append] at hu
  rcases hu with hu | hu
  · exact h.ob u hu v hv
  · rcases he with e | e
    · subst e; simp at hu
    · subst e; simp at hv
end
/-- Two halves, sorted. -/
theorem merging_start {l P A B : List Nat} (hP : P.Nodup) (hlt : ∀ p ∈ P, p < l.length) {m : Nat} (pa : A.Pairwise (suf l)) (ma : ∀ p, p ∈ A ↔ p ∈ P.take m) (la : A.length = (P.take m).length)
    (pb : B.Pairwise (suf l)) (mb : ∀ p, p ∈ B ↔ p ∈ P.drop m) (lb : B.length = (P.drop m).length) : Merging l P [] A B := by
  have hsplit : (P.take m ++ P.drop m).Nodup := by rw [List.take_append_drop]; exact hP
  refine ⟨by simp, pa, pb, by simp, by simp, ?_, ?_, ?_, hlt⟩
  · intro x hx y hy
    exact (List.pairwise_append.1 hsplit).2.2 x ((ma x).1 hx) y ((mb y).1 hy)
  · intro p
    have : p ∈ P ↔ p ∈ P.take m ++ P.drop m := by rw [List.take_append_drop]
    rw [this, List.mem_append, ma, mb]; simp
  · have : P.length = (P.take m ++ P.drop m).length := by rw [List.take_append_drop]
    rw [this, List.length_append, la, lb]; simp
end Sedge

/- Plain mathematics: sorting by thirds. -/
namespace Sedge

/-- In a filtered range the next one is the next that passes. -/
theorem next_filter {P : Nat → Bool} {n i k : Nat} (hi : i < ((List.range n).filter P).length) (hk : 0 < k) (hn : num ((List.range n).filter P) i + k < n) (hs : P (num ((List.range n).filter P) i + k) = true) (no : ∀ j, 0 < j → j < k → P (num ((List.range n).filter P) i + j) = false) :
    i + 1 < ((List.range n).filter P).length ∧ num ((List.range n).filter P) (i + 1) = num ((List.range n).filter P) i + k := by
  have hasc : ((List.range n).filter P).Pairwise (· < ·) := List.Pairwise.filter _ List.pairwise_lt_range
  have hmem : ∀ p, p ∈ (List.range n).filter P ↔ p < n ∧ P p = true := fun p => by rw [List.mem_filter, List.mem_range]
  generalize hF : (List.range n).filter P = F at *
  obtain ⟨a1, a2⟩ := idx_of_mem ((hmem _).2 ⟨hn, hs⟩)
  generalize hj : F.idxOf (num F i + k) = j at a1 a2
  have asc : ∀ x y, x < y → (hx : y < F.length) → num F x < num F y := by
    intro x y hxy hy
    have := List.pairwise_iff_getElem.1 hasc x y (by omega) hy hxy
    rwa [← num_eq (by omega), ← num_eq hy] at this
  have hij : i < j := by
    by_cases c : i < j
    · exact c
    · by_cases d : j = i
      · subst d; omega
      · have := asc j i (by omega) hi; omega
  refine ⟨by omega, ?_⟩
  have b := asc i (i + 1) (by omega) (by omega)
  by_cases c : j = i + 1
  · rw [← c]; exact a2
  · have d := asc (i + 1) j (by omega) a1
    rw [a2] at d
    have e := ((hmem _).1 (num_mem (show i + 1 < F.length by omega))).2
    have := no (num F (i + 1) - num F i) (by omega) (by omega)
    rw [show num F i + (num F (i + 1) - num F i) = num F (i + 1) by omega, e] at this
    cases this

def ofC (n k : Nat) : List Nat := (List.range n).filter fun p => (n - p) % 3 == k
def chosen (n : Nat) : List Nat := ofC n 1 ++ ofC n 2
theorem mem_ofC {n k p : Nat} : p ∈ ofC n k ↔ p < n ∧ (n - p) % 3 = k := by unfold ofC; rw [List.mem_filter, List.mem_range, beq_iff_eq]
theorem mem_chosen {n p : Nat} : p ∈ chosen n ↔ p < n ∧ (n - p) % 3 ≠ 0 := by
  unfold chosen; rw [List.mem_append, mem_ofC, mem_ofC]; omega
theorem ofC_next {n k i : Nat} (hi : i < (ofC n k).length) (h : num (ofC n k) i + 3 < n) : i + 1 < (ofC n k).length ∧ num (ofC n k) (i + 1) = num (ofC n k) i + 3 := by
  have hm := (mem_ofC.1 (num_mem hi))
  unfold ofC at *
  refine next_filter hi (by omega) h ?_ (fun j h1 h2 => ?_)
  · rw [beq_iff_eq]; omega
  · rw [beq_eq_false_iff_ne]; omega
theorem chosen_nodup (n : Nat) : (chosen n).Nodup := by
  have h : ∀ k, (ofC n k).Nodup := fun k => List.Pairwise.filter _ List.nodup_range
  unfold chosen
  refine List.nodup_append.2 ⟨h 1, h 2, fun a ha b hb e => ?_⟩
  have := mem_ofC.1 ha; have := mem_ofC.1 hb; omega
theorem num_append_l {a b : List Nat} {i : Nat} (h : i < a.length) : num (a ++ b) i = num a i := by simp [num, List.getD, List.getElem?_append_left h]
theorem num_append_r {a b : List Nat} {i : Nat} (h : a.length ≤ i) : num (a ++ b) i = num b (i - a.length) := by simp [num, List.getD, List.getElem?_append_right h]
theorem chosen_next {n i : Nat} (hi : i < (chosen n).length) (h : num (chosen n) i + 3 < n) : i + 1 < (chosen n).length ∧ num (chosen n) (i + 1) = num (chosen n) i + 3 := by
  unfold chosen at *
  rw [List.length_append] at *
  by_cases c : i < (ofC n 1).length
  · rw [num_append_l c] at h ⊢
    obtain ⟨h1, h2⟩ := ofC_next c h
    exact ⟨by omega, by rw [num_append_l h1]; exact h2⟩
  · rw [num_append_r (show (ofC n 1).length ≤ i by omega)] at h ⊢
    obtain ⟨h1, h2⟩ := ofC_next (show i - (ofC n 1).length < (ofC n 2).length by omega) h
    refine ⟨by omega, ?_⟩
    rw [num_append_r (by omega), show i + 1 - (ofC n 1).length = i - (ofC n 1).length + 1 by omega]
    exact h2

theorem kh_split (l : List Nat) (p h : Nat) : l.drop p = kh l h p ++ l.drop (p + h) := by
  unfold kh
  rw [← List.drop_drop, List.take_append_drop]
theorem kh_length (l : List Nat) (h p : Nat) : (kh l h p).length = min h (l.length - p) := by simp [kh]

/-- The shorter row orders the chosen ends. -/
theorem shorter3 {l s : List Nat} {sm : Nat → Nat → Bool} (hs : Sorted (kh l 3) sm s) (hm : ∀ p, p ∈ s ↔ p ∈ chosen l.length) :
    ∀ (m i j : Nat), i + m = (chosen l.length).length → i < (chosen l.length).length → j < (chosen l.length).length → suf ((chosen l.length).map (nameOf sm s)) i j → suf l (num (chosen l.length) i) (num (chosen l.length) j) := by
  have hnd := chosen_nodup l.length
  have hnx : ∀ i, i < (chosen l.length).length → num (chosen l.length) i + 3 < l.length → i + 1 < (chosen l.length).length ∧ num (chosen l.length) (i + 1) = num (chosen l.length) i + 3 := fun i => chosen_next
  have hmem : ∀ p, p ∈ chosen l.length → p < l.length ∧ (l.length - p) % 3 ≠ 0 := fun p => mem_chosen.1
  generalize hC : chosen l.length = C at *
  have hR : ∀ i, i < C.length → num (C.map (nameOf sm s)) i = nameOf sm s (num C i) := fun i hi => by simp [num, List.getD, hi]
  intro m
  induction m with
  | zero => intro i j h1 h2; omega
  | succ m ih =>
    intro i j h1 hi hj hlt
    unfold suf at hlt
    rw [drop_num (p := i) (by simpa using hi), drop_num (p := j) (by simpa using hj), List.cons_lt_cons_iff, hR i hi, hR j hj] at hlt
    have mi := num_mem hi
    have mj := num_mem hj
    rcases hlt with c | ⟨e, c⟩
    · exact lt_take 3 _ _ ((hs.name_lt ((hm _).2 mi) ((hm _).2 mj)).1 c)
    · have hk := (hs.name_eq ((hm _).2 mi) ((hm _).2 mj)).1 e
      have hne : num C i ≠ num C j := fun x => by
        have x1 := idx_num hnd hi
        have x2 := idx_num hnd hj
        rw [x, x2] at x1
        subst x1
        exact lt_irr _ c
      have hl := congrArg List.length hk
      rw [kh_length, kh_length] at hl
      have a1 := hmem _ mi
      have a2 := hmem _ mj
      obtain ⟨n1, n2⟩ := hnx i hi (by omega)
      obtain ⟨n3, n4⟩ := hnx j hj (by omega)
      have := ih (i + 1) (j + 1) (by omega) n1 n3 c
      rw [n2, n4] at this
      unfold suf at this ⊢
      rw [kh_split l (num C i) 3, kh_split l (num C j) 3, hk]
      exact List.append_left_lt this

/-- The chosen ends in their order, by the shorter row's. -/
theorem chosen_by_row {l s o : List Nat} {sm : Nat → Nat → Bool} (hs : Sorted (kh l 3) sm s) (hm : ∀ p, p ∈ s ↔ p ∈ chosen l.length) (ho : IsSA ((chosen l.length).map (nameOf sm s)) o) :
    (o.map (num (chosen l.length))).Pairwise (suf l) ∧ ∀ p, p ∈ o.map (num (chosen l.length)) ↔ p ∈ chosen l.length := by
  have hl : ∀ i, i ∈ o ↔ i < (chosen l.length).length := fun i => by rw [ho.2]; simp
  refine ⟨List.pairwise_map.2 (List.Pairwise.imp_of_mem (fun {a b} ha hb hab => ?_) ho.1), fun p => ?_⟩
  · exact shorter3 hs hm _ a b (show a + ((chosen l.length).length - a) = _ by have := (hl a).1 ha; omega) ((hl a).1 ha) ((hl b).1 hb) hab
  · rw [List.mem_map]
    constructor
    · rintro ⟨a, ha, rfl⟩; exact num_mem ((hl a).1 ha)
    · intro hp
      obtain ⟨h1, h2⟩ := idx_of_mem hp
      exact ⟨_, (hl _).2 h1, h2⟩
theorem chosen_by_names {l s : List Nat} {sm : Nat → Nat → Bool} (hs : Sorted (kh l 3) sm s) (hk : kindsOf sm s = s.length) : s.Pairwise (suf l) :=
  (hs.strict hk).imp fun hab => lt_take 3 _ _ hab

/-- Sorted by three numbers: three deals, the least weighty first. -/
theorem kh_add (l : List Nat) (a b p : Nat) : kh l (a + b) p = kh l a p ++ kh l b (p + a) := by
  unfold kh
  rw [List.take_add, List.drop_drop]
theorem kh_add_lt {l : List Nat} {a b p q : Nat} (H : kh l a p < kh l a q ∨ (kh l a p = kh l a q ∧ kh l b (p + a) < kh l b (q + a))) : kh l (a + b) p < kh l (a + b) q := by
  rw [kh_add, kh_add]
  rcases H with H | ⟨e, H⟩
  · refine lt_halves a _ _ _ _ (kh_len l a q) ?_ H
    by_cases c : p + a ≤ l.length
    · exact Or.inl (by rw [kh_length]; omega)
    · exact Or.inr (kh_end (by omega))
  · rw [e]; exact List.append_left_lt H
theorem kh_add_eq {l : List Nat} {a b p q : Nat} : kh l (a + b) p = kh l (a + b) q ↔ kh l a p = kh l a q ∧ kh l b (p + a) = kh l b (q + a) := by
  constructor
  · intro e
    have e1 : (kh l (a + b) p).take a = (kh l (a + b) q).take a := by rw [e]
    have e2 : (kh l (a + b) p).drop a = (kh l (a + b) q).drop a := by rw [e]
    unfold kh at *
    rw [List.take_take, List.take_take, Nat.min_eq_left (by omega)] at e1
    refine ⟨e1, ?_⟩
    rw [List.drop_take, List.drop_take, List.drop_drop, List.drop_drop, Nat.add_sub_cancel_left] at e2
    exact e2
  · rintro ⟨e1, e2⟩
    rw [kh_add, kh_add, e1, e2]
theorem ranks_one (l : List Nat) : Ranks l 1 l where
  len := rfl
  eq := fun p q hp hq => by unfold kh; rw [drop_num hp, drop_num hq]; simp
  lt := fun p q hp hq => by unfold kh; rw [drop_num hp, drop_num hq]; simp [List.cons_lt_cons_iff]

def three (l : List Nat) (a b : Nat) : Bool := decide (rk l a = rk l b ∧ rk l (a + 1) = rk l (b + 1) ∧ rk l (a + 2) = rk l (b + 2))
def deals3 (l C : List Nat) (K : Nat) : List Nat := flat (part (fun p => rk l p) (flat (part (fun p => rk l (p + 1)) (flat (part (fun p => rk l (p + 2)) C) K)) K)) K
theorem kh3_lt {l : List Nat} {a b : Nat} (H : rk l a < rk l b ∨ (rk l a = rk l b ∧ (rk l (a + 1) < rk l (b + 1) ∨ (rk l (a + 1) = rk l (b + 1) ∧ rk l (a + 2) < rk l (b + 2))))) : kh l 3 a < kh l 3 b := by
  have R := ranks_one l
  have q := R.rk_eq (by omega)
  have t := R.rk_lt (by omega)
  refine kh_add_lt (a := 1) (b := 2) ?_
  rcases H with H | ⟨e, H | ⟨e', H⟩⟩
  · exact Or.inl (t _ _ H)
  · exact Or.inr ⟨(q _ _).1 e, kh_add_lt (a := 1) (b := 1) (Or.inl (t _ _ H))⟩
  · exact Or.inr ⟨(q _ _).1 e, kh_add_lt (a := 1) (b := 1) (Or.inr ⟨(q _ _).1 e', t _ _ H⟩)⟩
theorem kh3_eq {l : List Nat} {a b : Nat} : kh l 3 a = kh l 3 b ↔ rk l a = rk l b ∧ rk l (a + 1) = rk l (b + 1) ∧ rk l (a + 2) = rk l (b + 2) := by
  have q := (ranks_one l).rk_eq (by omega)
  rw [show (3 : Nat) = 1 + (1 + 1) from rfl, kh_add_eq, kh_add_eq, q, q, q]
theorem deals3_sorted {l C : List Nat} {K : Nat} (hC : C.Nodup) : Sorted (kh l 3) (three l) (deals3 l C K) := by
  have p0 : C.Pairwise (fun a b => a ≠ b) := hC
  have p1 := flat_part_pairwise (β := fun p => rk l (p + 2)) p0 K
  have p2 := flat_part_pairwise (β := fun p => rk l (p + 1)) p1 K
  have p3 := flat_part_pairwise (β := fun p => rk l p) p2 K
  refine sorted_of_pairwise (p3.imp fun {a b} hab => ?_) (fun a b _ _ => by unfold three; rw [decide_eq_true_eq, kh3_eq])
  rcases hab with c | ⟨e, c | ⟨e', c | ⟨e'', c⟩⟩⟩
  · exact ⟨Or.inl (kh3_lt (Or.inl c)), fun x => by subst x; omega⟩
  · exact ⟨Or.inl (kh3_lt (Or.inr ⟨e, Or.inl c⟩)), fun x => by subst x; omega⟩
  · exact ⟨Or.inl (kh3_lt (Or.inr ⟨e, Or.inr ⟨e', c⟩⟩)), fun x => by subst x; omega⟩
  · exact ⟨Or.inr (kh3_eq.2 ⟨e, e', e''⟩), c⟩
theorem deals3_mem {l C : List Nat} {K : Nat} (hK : ∀ p, rk l p < K) (p : Nat) : p ∈ deals3 l C K ↔ p ∈ C := by
  unfold deals3
  rw [mem_flat_part (fun p _ => hK _), mem_flat_part (fun p _ => hK _), mem_flat_part (fun p _ => hK _)]
end Sedge

/- Plain mathematics: the ends that were not chosen; merging both. -/
namespace Sedge

/-- The others, as they are taken off the chosen ones. -/
def othersOf (n : Nat) (S : List Nat) : List Nat := (S.filter fun p => decide (0 < p) && (n - p) % 3 == 2).map (· - 1)
theorem others_mem {n : Nat} {S : List Nat} (hm : ∀ p, p ∈ S ↔ p ∈ chosen n) (p : Nat) : p ∈ othersOf n S ↔ p < n ∧ (n - p) % 3 = 0 := by
  unfold othersOf
  rw [List.mem_map]
  constructor
  · rintro ⟨a, ha, rfl⟩
    rw [List.mem_filter, hm, mem_chosen] at ha
    simp at ha
    omega
  · rintro ⟨h1, h2⟩
    refine ⟨p + 1, ?_, by omega⟩
    rw [List.mem_filter, hm, mem_chosen]
    simp
    omega
theorem others_pairwise {l S : List Nat} (h : S.Pairwise (suf l)) : (othersOf l.length S).Pairwise (fun a b => suf l (a + 1) (b + 1)) := by
  unfold othersOf
  refine List.pairwise_map.2 (List.Pairwise.imp_of_mem (fun {a b} ha hb hab => ?_) (h.filter _))
  have h1 := (List.mem_filter.1 ha).2
  have h2 := (List.mem_filter.1 hb).2
  simp at h1 h2
  rw [show a - 1 + 1 = a by omega, show b - 1 + 1 = b by omega]
  exact hab
/-- Dealt by their first number they are sorted. -/
theorem others_sorted {l S : List Nat} {K : Nat} (h : S.Pairwise (suf l)) (hm : ∀ p, p ∈ S ↔ p ∈ chosen l.length) (hK : ∀ p, p < l.length → num l p < K) :
    (flat (part (num l) (othersOf l.length S)) K).Pairwise (suf l) ∧ ∀ p, p ∈ flat (part (num l) (othersOf l.length S)) K ↔ p < l.length ∧ (l.length - p) % 3 = 0 := by
  have hmem : ∀ p, p ∈ flat (part (num l) (othersOf l.length S)) K ↔ p < l.length ∧ (l.length - p) % 3 = 0 := fun p => by
    rw [mem_flat_part (fun p hp => hK p ((others_mem hm p).1 hp).1), others_mem hm]
  refine ⟨List.Pairwise.imp_of_mem (fun {a b} ha hb hab => ?_) (flat_part_pairwise (β := num l) (others_pairwise h) K), hmem⟩
  have h1 := ((hmem a).1 ha).1
  have h2 := ((hmem b).1 hb).1
  unfold suf
  rw [drop_num h1, drop_num h2, List.cons_lt_cons_iff]
  exact hab

/-- How far the merging has come. -/
structure Merged (l S O : List Nat) (i j : Nat) (ord : List Nat) : Prop where
  a : (ord ++ S.drop i).Pairwise (suf l)
  b : (ord ++ O.drop j).Pairwise (suf l)
  mem : ∀ p, p ∈ ord ↔ p ∈ S.take i ∨ p ∈ O.take j
  len : ord.length = i + j

theorem Merged.start {l S O : List Nat} (hS : S.Pairwise (suf l)) (hO : O.Pairwise (suf l)) : Merged l S O 0 0 [] :=
  ⟨by simpa using hS, by simpa using hO, fun p => by simp, rfl⟩

section
variable {l S O ord : List Nat} {i j : Nat}
theorem mem_take_succ {S : List Nat} {i p : Nat} (h : i < S.length) : p ∈ S.take (i + 1) ↔ p ∈ S.take i ∨ p = num S i := by
  rw [take_num h, List.mem_append, List.mem_singleton]
theorem Merged.other (h : Merged l S O i j ord) (hi : i < S.length) (hj : j < O.length) (hlt : suf l (num O j) (num S i)) : Merged l S O i (j + 1) (ord ++ [num O j]) where
  a := by
    have hb := h.b
    have ha := h.a
    rw [drop_num hj] at hb
    rw [drop_num hi] at ha ⊢
    rw [List.pairwise_append] at ha hb
    rw [List.append_assoc, List.pairwise_append]
    refine ⟨ha.1, ?_, ?_⟩
    · simp only [List.singleton_append]
      refine List.pairwise_cons.2 ⟨fun x hx => ?_, ha.2.1⟩
      rcases List.mem_cons.1 hx with rfl | hx
      · exact hlt
      · exact lt_tr hlt ((List.pairwise_cons.1 ha.2.1).1 x hx)
    · intro x hx y hy
      simp only [List.singleton_append] at hy
      rcases List.mem_cons.1 hy with rfl | hy
      · exact hb.2.2 x hx _ (by simp)
      · exact ha.2.2 x hx y hy
  b := by
    have hb := h.b
    rw [drop_num hj] at hb
    rw [List.append_assoc]; simpa using hb
  mem := fun p => by
    rw [List.mem_append, h.mem, mem_take_succ hj, List.mem_singleton, or_assoc]
  len := by rw [List.length_append, h.len]; simp; omega
theorem Merged.taken (h : Merged l S O i j ord) (hi : i < S.length) (hlt : ∀ x, x ∈ O.drop j → suf l (num S i) x) : Merged l S O (i + 1) j (ord ++ [num S i]) where
  a := by
    have ha := h.a
    rw [drop_num hi] at ha
    rw [List.append_assoc]; simpa using ha
  b := by
    have hb := h.b
    have ha := h.a
    rw [drop_num hi] at ha
    rw [List.pairwise_append] at ha hb
    rw [List.append_assoc, List.pairwise_append]
    refine ⟨hb.1, ?_, ?_⟩
    · simp only [List.singleton_append]
      exact List.pairwise_cons.2 ⟨hlt, hb.2.1⟩
    · intro x hx y hy
      simp only [List.singleton_append] at hy
      rcases List.mem_cons.1 hy with rfl | hy
      · exact ha.2.2 x hx _ (by simp)
      · exact hb.2.2 x hx y hy
  mem := fun p => by
    rw [List.mem_append, h.mem, mem_take_succ hi, List.mem_singleton]
    constructor
    · rintro ((c | c) | c)
      · exact Or.inl (Or.inl c)
      · exact Or.inr c
      · exact Or.inl (Or.inr c)
    · rintro ((c | c) | c)
      · exact Or.inl (Or.inl c)
      · exact Or.inr c
      · exact Or.inl (Or.inr c)
  len := by rw [List.length_append, h.len]; simp; omega
theorem Merged.ahead (hO : O.Pairwise (suf l)) {p : Nat} (hj : j < O.length) (h : suf l p (num O j)) : ∀ x, x ∈ O.drop j → suf l p x := by
  intro x hx
  rw [drop_num hj] at hx
  rcases List.mem_cons.1 hx with rfl | hx
  · exact h
  · have hd : (O.drop j).Pairwise (suf l) := hO.sublist (List.drop_sublist j O)
    rw [drop_num hj] at hd
    exact lt_tr h ((List.pairwise_cons.1 hd).1 x hx)
theorem Merged.done (h : Merged l S O S.length j ord) (hm : ∀ p, p ∈ S ↔ p ∈ chosen l.length) (ho : ∀ p, p ∈ O ↔ p < l.length ∧ (l.length - p) % 3 = 0) : IsSA l (ord ++ O.drop j) := by
  refine ⟨h.b, fun p => ?_⟩
  rw [List.mem_append, h.mem, List.take_length, or_assoc, ← List.mem_append, List.take_append_drop, hm, ho, mem_chosen]
  omega
end

/-- What decides between one of the others and a chosen end. -/
theorem ahead_one {l ch : List Nat} {r : Nat → Nat} {o p : Nat} (hc : ∀ a b, a ∈ ch → b ∈ ch → (r a < r b ↔ suf l a b)) (ho : o < l.length) (hp : p < l.length) (mo : o + 1 ∈ ch) (mp : p + 1 ∈ ch) :
    suf l o p ↔ num l o < num l p ∨ (num l o = num l p ∧ r (o + 1) < r (p + 1)) := by
  unfold suf
  rw [drop_num ho, drop_num hp, List.cons_lt_cons_iff, hc _ _ mo mp]
  rfl
end Sedge

/- Plain mathematics: what decides between one of the others and a chosen end. -/
namespace Sedge

/-- Ranks of the chosen ends. -/
structure RankOf (l r : List Nat) : Prop where
  len : r.length = l.length
  lt : ∀ a b, a ∈ chosen l.length → b ∈ chosen l.length → (num r a < num r b ↔ suf l a b)

theorem nm_false (o : List Nat) : ∀ i, nm (fun _ _ => false) o i = i
  | 0 => rfl
  | i + 1 => by simp [nm, nm_false o i]

theorem rankOf_names {l S : List Nat} (hS : S.Pairwise (suf l)) (hm : ∀ p, p ∈ S ↔ p ∈ chosen l.length) : RankOf l ((List.range l.length).map (nameOf (fun _ _ => false) S)) where
  len := by simp
  lt := fun a b ha hb => by
    have nd : S.Nodup := nodup_of_irr (fun _ => lt_irr _) hS
    rw [num_range_map (mem_chosen.1 ha).1, num_range_map (mem_chosen.1 hb).1]
    have ma := (hm a).2 ha
    have mb := (hm b).2 hb
    unfold nameOf
    rw [if_pos ma, if_pos mb, nm_false, nm_false]
    obtain ⟨a1, a2⟩ := idx_of_mem ma
    obtain ⟨b1, b2⟩ := idx_of_mem mb
    have key : ∀ x y, x < y → y < S.length → suf l (num S x) (num S y) := fun x y hxy hy => by
      have := List.pairwise_iff_getElem.1 hS x y (by omega) hy hxy
      rwa [← num_eq (by omega), ← num_eq hy] at this
    constructor
    · intro h
      have := key _ _ h b1
      rwa [a2, b2] at this
    · intro h
      by_cases c : S.idxOf a < S.idxOf b
      · exact c
      · by_cases e : S.idxOf a = S.idxOf b
        · rw [← a2, ← b2, e] at h; exact absurd h (lt_irr _)
        · have := key _ _ (show S.idxOf b < S.idxOf a by omega) a1
          rw [a2, b2] at this
          exact absurd h (lt_as this)

theorem RankOf.rk {l r : List Nat} (R : RankOf l r) {a b : Nat} (ha : a ∈ chosen l.length) (hb : b ∈ chosen l.length) : Sedge.rk r a < Sedge.rk r b ↔ suf l a b := by
  unfold Sedge.rk
  rw [R.len, if_pos (mem_chosen.1 ha).1, if_pos (mem_chosen.1 hb).1, ← R.lt a b ha hb]
  omega

theorem ahead1 {l r : List Nat} (R : RankOf l r) {o p : Nat} (ho : o < l.length) (ho' : (l.length - o) % 3 = 0) (hp : p < l.length) (hp' : (l.length - p) % 3 = 2) :
    [rk l o, rk r (o + 1), 0] < [rk l p, rk r (p + 1), 0] ↔ suf l o p := by
  have mo : o + 1 ∈ chosen l.length := mem_chosen.2 (by omega)
  have mp : p + 1 ∈ chosen l.length := mem_chosen.2 (by omega)
  have e1 : rk l o = num l o + 1 := by unfold rk; rw [if_pos ho]
  have e2 : rk l p = num l p + 1 := by unfold rk; rw [if_pos hp]
  have h := R.rk mo mp
  have hs : suf l o p ↔ num l o < num l p ∨ (num l o = num l p ∧ suf l (o + 1) (p + 1)) := by
    unfold suf
    rw [drop_num ho, drop_num hp, List.cons_lt_cons_iff]
  rw [hs, ← h, e1, e2]
  simp only [List.cons_lt_cons_iff, List.lt_irrefl, and_false, or_false]
  omega

theorem ahead2 {l r : List Nat} (R : RankOf l r) {o p : Nat} (ho : o < l.length) (ho' : (l.length - o) % 3 = 0) (hp : p < l.length) (hp' : (l.length - p) % 3 = 1) :
    [rk l o, rk l (o + 1), rk r (o + 2)] < [rk l p, rk l (p + 1), rk r (p + 2)] ↔ suf l o p := by
  have mo : o + 2 ∈ chosen l.length := mem_chosen.2 (by omega)
  have e1 : rk l o = num l o + 1 := by unfold rk; rw [if_pos ho]
  have e2 : rk l p = num l p + 1 := by unfold rk; rw [if_pos hp]
  have e3 : rk l (o + 1) = num l (o + 1) + 1 := by unfold rk; rw [if_pos (by omega)]
  by_cases c : p + 2 < l.length
  · have mp : p + 2 ∈ chosen l.length := mem_chosen.2 (by omega)
    have e4 : rk l (p + 1) = num l (p + 1) + 1 := by unfold rk; rw [if_pos (by omega)]
    have h := R.rk mo mp
    have hs : suf l o p ↔ num l o < num l p ∨ (num l o = num l p ∧ (num l (o + 1) < num l (p + 1) ∨ (num l (o + 1) = num l (p + 1) ∧ suf l (o + 2) (p + 2)))) := by
      unfold suf
      rw [drop_num ho, drop_num hp, List.cons_lt_cons_iff, drop_num (show o + 1 < l.length by omega), drop_num (show p + 1 < l.length by omega), List.cons_lt_cons_iff]
    rw [hs, ← h, e1, e2, e3, e4]
    simp only [List.cons_lt_cons_iff, List.lt_irrefl, and_false, or_false]
    omega
  · have e4 : rk l (p + 1) = 0 := by unfold rk; rw [if_neg (by omega)]
    have hs : suf l o p ↔ num l o < num l p := by
      unfold suf
      rw [drop_num ho, drop_num hp, List.cons_lt_cons_iff, List.drop_of_length_le (show l.length ≤ p + 1 by omega)]
      simp
    rw [hs, e1, e2, e3, e4]
    simp only [List.cons_lt_cons_iff, List.lt_irrefl, and_false, or_false]
    omega
end Sedge

/- Plain mathematics: turning, and back. -/
namespace Sedge

/-- The places of all ends with a mark behind the text, in their order. -/
def IsMA (l R : List Nat) : Prop := R.Pairwise (suf l) ∧ ∀ p, p ∈ R ↔ p ≤ l.length
theorem suf_end {l : List Nat} {p : Nat} (h : p < l.length) : suf l l.length p := by
  unfold suf; rw [List.drop_length, drop_num h]; exact List.nil_lt_cons _ _
theorem IsMA.of_SA {l o : List Nat} (h : IsSA l o) : IsMA l (l.length :: o) := by
  refine ⟨List.pairwise_cons.2 ⟨fun p hp => suf_end ((h.2 p).1 hp), h.1⟩, fun p => ?_⟩
  rw [List.mem_cons, h.2]; omega
section
variable {l R : List Nat}
theorem IsMA.unique {a b : List Nat} (ha : IsMA l a) (hb : IsMA l b) : a = b :=
  sorted_unique (R := suf l) (fun _ => lt_irr _) (fun _ _ h => lt_as h) a b ha.1 hb.1 (fun x => by rw [ha.2, hb.2])
theorem IsMA.nodup (h : IsMA l R) : R.Nodup := nodup_of_irr (fun _ => lt_irr _) h.1
theorem IsMA.length (h : IsMA l R) : R.length = l.length + 1 := by
  have a := h.nodup.length_le_of_subset (l₂ := List.range (l.length + 1)) (fun x hx => List.mem_range.2 (by have := (h.2 x).1 hx; omega))
  have b := (List.nodup_range (n := l.length + 1)).length_le_of_subset (l₂ := R) (fun x hx => (h.2 x).2 (by have := List.mem_range.1 hx; omega))
  simp only [List.length_range] at a b
  omega
theorem IsMA.lt (h : IsMA l R) {i j : Nat} (hij : i < j) (hj : j < R.length) : suf l (num R i) (num R j) := by
  have := List.pairwise_iff_getElem.1 h.1 i j (by omega) hj hij
  rwa [← num_eq (by omega), ← num_eq hj] at this
theorem IsMA.idx_lt (h : IsMA l R) {p q : Nat} (hp : p ≤ l.length) (hq : q ≤ l.length) (hs : suf l p q) : R.idxOf p < R.idxOf q := by
  obtain ⟨a1, a2⟩ := idx_of_mem ((h.2 p).2 hp)
  obtain ⟨b1, b2⟩ := idx_of_mem ((h.2 q).2 hq)
  by_cases c : R.idxOf p < R.idxOf q
  · exact c
  · by_cases d : R.idxOf p = R.idxOf q
    · rw [← a2, ← b2, d] at hs; exact absurd hs (lt_irr _)
    · have := h.lt (show R.idxOf q < R.idxOf p by omega) a1
      rw [a2, b2] at this
      exact absurd hs (lt_as this)
theorem IsMA.idx_end (h : IsMA l R) : R.idxOf l.length = 0 := by
  obtain ⟨a1, a2⟩ := idx_of_mem ((h.2 l.length).2 (Nat.le_refl _))
  by_cases c : R.idxOf l.length = 0
  · exact c
  · have := h.lt (show 0 < R.idxOf l.length by omega) a1
    rw [a2] at this
    unfold suf at this
    rw [List.drop_length] at this
    exact absurd this (List.not_lt_nil _)
theorem IsMA.idx_inj (h : IsMA l R) {p q : Nat} (hp : p ≤ l.length) (hq : q ≤ l.length) (e : R.idxOf p = R.idxOf q) : p = q := by
  have a := (idx_of_mem ((h.2 p).2 hp)).2
  have b := (idx_of_mem ((h.2 q).2 hq)).2
  rw [← a, ← b, e]

/-- What stands ahead of a place: one more than the byte; 0: nothing. -/
def kp (l : List Nat) (p : Nat) : Nat := if p = 0 then 0 else num l (p - 1) + 1
def turnL (l R : List Nat) : List Nat := (R.filter fun p => p != 0).map fun p => num l (p - 1)
/-- What stands ahead of a row's end. -/
def ah (L : List Nat) (r i : Nat) : Nat := if i < r then num L i + 1 else if r < i then num L (i - 1) + 1 else 0
/-- A text turned. -/
def Tn (l L : List Nat) (r : Nat) : Prop := ∃ R, IsMA l R ∧ L = turnL l R ∧ r = R.idxOf 0

theorem split0 (h : IsMA l R) : ∃ A B, R = A ++ 0 :: B ∧ (∀ p ∈ A, p ≠ 0) ∧ (∀ p ∈ B, p ≠ 0) ∧ R.idxOf 0 = A.length ∧ turnL l R = A.map (fun p => num l (p - 1)) ++ B.map fun p => num l (p - 1) := by
  obtain ⟨A, B, e⟩ := List.append_of_mem ((h.2 0).2 (Nat.zero_le _))
  have hn := h.nodup
  rw [e, List.nodup_append] at hn
  have hA : ∀ p ∈ A, p ≠ 0 := fun p hp => hn.2.2 p hp 0 (by simp)
  have hB : ∀ p ∈ B, p ≠ 0 := fun p hp c => by subst c; exact (List.nodup_cons.1 hn.2.1).1 hp
  refine ⟨A, B, e, hA, hB, ?_, ?_⟩
  · rw [e, List.idxOf_append, if_neg (fun c => hA 0 c rfl)]; simp
  · unfold turnL
    rw [e, List.filter_append, List.filter_cons_of_neg (by simp), List.map_append, List.filter_eq_self.2 (fun p hp => by simpa using hA p hp), List.filter_eq_self.2 (fun p hp => by simpa using hB p hp)]
theorem num_map {f : Nat → Nat} {a : List Nat} {i : Nat} (h : i < a.length) : num (a.map f) i = f (num a i) := by simp [num, List.getD, h]
theorem turn_ah (h : IsMA l R) {i : Nat} (hi : i < R.length) : ah (turnL l R) (R.idxOf 0) i = kp l (num R i) := by
  obtain ⟨A, B, e, hA, hB, hr, ht⟩ := split0 h
  rw [hr, ht]
  unfold ah kp
  by_cases c : i < A.length
  · rw [if_pos c, e, num_append_l (by simpa using c), num_append_l c, num_map c, if_neg (hA _ (num_mem c))]
  · rw [if_neg c]
    by_cases d : A.length < i
    · have hB' : i - A.length - 1 < B.length := by rw [e] at hi; simp at hi; omega
      have e1 : num R i = num B (i - A.length - 1) := by
        rw [e, num_append_r (by omega)]
        rw [show i - A.length = (i - A.length - 1) + 1 by omega]
        rfl
      rw [if_pos d, num_append_r (by simp; omega), e1, List.length_map, show i - 1 - A.length = i - A.length - 1 by omega, num_map hB', if_neg (hB _ (num_mem hB'))]
    · have e1 : num R i = 0 := by
        rw [e, num_append_r (by omega), show i - A.length = 0 by omega]; rfl
      rw [if_neg d, e1, if_pos rfl]
theorem turnL_length (h : IsMA l R) : (turnL l R).length = l.length := by
  obtain ⟨A, B, e, _, _, _, ht⟩ := split0 h
  have := h.length
  rw [e] at this
  rw [ht]; simp at this ⊢; omega
theorem idx0_le (h : IsMA l R) : R.idxOf 0 ≤ l.length := by
  have := (idx_of_mem ((h.2 0).2 (Nat.zero_le _))).1; have := h.length; omega
theorem turnL_lt (_h : IsMA l R) {m : Nat} (hm : ∀ p, num l p < m) (hp : 0 < m) : ∀ p, num (turnL l R) p < m := fun p => by
  by_cases c : p < (turnL l R).length
  · have := num_mem c
    unfold turnL at this
    obtain ⟨a, _, ha⟩ := List.mem_map.1 this
    show num ((R.filter fun p => p != 0).map fun p => num l (p - 1)) p < m
    rw [← ha]; exact hm _
  · have : num (turnL l R) p = 0 := by simp [num, List.getD, Nat.not_lt.1 c]
    omega
end

/-- The rows by what stands ahead of them. -/
def Fo (L : List Nat) (r : Nat) : List Nat := flat (part (ah L r) (List.range (L.length + 1))) 257
abbrev Qo (L : List Nat) (r a b : Nat) : Prop := ah L r a < ah L r b ∨ (ah L r a = ah L r b ∧ a < b)
section
variable {L : List Nat} {r : Nat}
theorem ah_lt (hL : ∀ p, num L p < 256) (i : Nat) : ah L r i < 257 := by
  unfold ah; split
  · have := hL i; omega
  · split
    · have := hL (i - 1); omega
    · omega
theorem Fo_pairwise : (Fo L r).Pairwise (Qo L r) := flat_part_pairwise (β := ah L r) (R := fun a b => a < b) List.pairwise_lt_range 257
theorem Fo_mem (hL : ∀ p, num L p < 256) (p : Nat) : p ∈ Fo L r ↔ p ≤ L.length := by
  unfold Fo
  rw [mem_flat_part (fun p _ => ah_lt hL p), List.mem_range]; omega
theorem Qo_irr (x : Nat) : ¬ Qo L r x x := fun h => by rcases h with h | ⟨_, h⟩ <;> omega
theorem Qo_as (x y : Nat) (h : Qo L r x y) : ¬ Qo L r y x := fun k => by rcases h with h | ⟨h, h'⟩ <;> rcases k with k | ⟨k, k'⟩ <;> omega
theorem Fo_nodup : (Fo L r).Nodup := nodup_of_irr (Qo_irr (L := L) (r := r)) Fo_pairwise
theorem Fo_length (hL : ∀ p, num L p < 256) : (Fo L r).length = L.length + 1 := by
  have a := (Fo_nodup (L := L) (r := r)).length_le_of_subset (l₂ := List.range (L.length + 1)) (fun x hx => List.mem_range.2 (by have := (Fo_mem hL x).1 hx; omega))
  have b := (List.nodup_range (n := L.length + 1)).length_le_of_subset (l₂ := Fo L r) (fun x hx => (Fo_mem hL x).2 (by have := List.mem_range.1 hx; omega))
  simp only [List.length_range] at a b
  omega
theorem Fo_lt {i j : Nat} (hij : i < j) (hj : j < (Fo L r).length) : Qo L r (num (Fo L r) i) (num (Fo L r) j) := by
  have := List.pairwise_iff_getElem.1 (Fo_pairwise (L := L) (r := r)) i j (by omega) hj hij
  rwa [← num_eq (by omega), ← num_eq hj] at this
theorem ah_row : ah L r r = 0 := by simp [ah]
theorem ah_pos {i : Nat} (h : i ≠ r) : 0 < ah L r i := by
  unfold ah; split
  · omega
  · split
    · omega
    · omega
/-- The mark's row goes on to the whole text's. -/
theorem Fo_zero (hL : ∀ p, num L p < 256) (hr : r ≤ L.length) : num (Fo L r) 0 = r := by
  have hl := Fo_length (r := r) hL
  obtain ⟨a1, a2⟩ := idx_of_mem ((Fo_mem hL r).2 hr)
  by_cases c : (Fo L r).idxOf r = 0
  · rw [c] at a2; exact a2
  · have := Fo_lt (L := L) (r := r) (show 0 < (Fo L r).idxOf r by omega) a1
    rw [a2] at this
    rcases this with h | ⟨h, h'⟩
    · rw [ah_row] at h; omega
    · rw [ah_row] at h
      by_cases e : num (Fo L r) 0 = r
      · exact e
      · have := ah_pos (L := L) e; omega
theorem Fo_inj (hL : ∀ p, num L p < 256) {i j : Nat} (hi : i ≤ L.length) (hj : j ≤ L.length) (e : num (Fo L r) i = num (Fo L r) j) : i = j := by
  have hl := Fo_length (r := r) hL
  have a := idx_num (Fo_nodup (L := L) (r := r)) (show i < (Fo L r).length by omega)
  have b := idx_num (Fo_nodup (L := L) (r := r)) (show j < (Fo L r).length by omega)
  rw [← a, ← b, e]
theorem Fo_le (hL : ∀ p, num L p < 256) {i : Nat} (hi : i ≤ L.length) : num (Fo L r) i ≤ L.length := (Fo_mem hL _).1 (num_mem (by rw [Fo_length hL]; omega))
end

/-- Of a text's rows each goes on to the row of the end without its first byte. -/
theorem Fo_text {l R : List Nat} (h : IsMA l R) (hl : ∀ p, num l p < 256) : Fo (turnL l R) (R.idxOf 0) = R.map fun p => R.idxOf (if p = l.length then 0 else p + 1) := by
  have hL := turnL_lt h hl (by omega)
  have hlen := turnL_length h
  have hRl := h.length
  have key : ∀ p, p ≤ l.length → ah (turnL l R) (R.idxOf 0) (R.idxOf (if p = l.length then 0 else p + 1)) = if p = l.length then 0 else num l p + 1 := fun p hp => by
    by_cases e : p = l.length
    · rw [if_pos e, if_pos e]; exact ah_row
    · rw [if_neg e, if_neg e]
      obtain ⟨a1, a2⟩ := idx_of_mem ((h.2 (p + 1)).2 (by omega))
      rw [turn_ah h a1, a2]
      simp [kp]
  refine sorted_unique (Qo_irr (L := turnL l R) (r := R.idxOf 0)) Qo_as _ _ Fo_pairwise ?_ (fun x => ?_)
  · refine List.pairwise_map.2 (List.Pairwise.imp_of_mem (fun {p q} hp hq hpq => ?_) h.1)
    have hp' := (h.2 p).1 hp
    have hq' := (h.2 q).1 hq
    have hqn : q ≠ l.length := fun e => by subst e; unfold suf at hpq; rw [List.drop_length] at hpq; exact List.not_lt_nil _ hpq
    unfold Qo
    rw [key p hp', key q hq', if_neg hqn]
    by_cases e : p = l.length
    · rw [if_pos e]; exact Or.inl (by omega)
    · rw [if_neg e]
      unfold suf at hpq
      rw [drop_num (show p < l.length by omega), drop_num (show q < l.length by omega), List.cons_lt_cons_iff] at hpq
      rcases hpq with c | ⟨c, d⟩
      · exact Or.inl (by omega)
      · refine Or.inr ⟨by omega, ?_⟩
        rw [if_neg e, if_neg hqn]
        exact h.idx_lt (by omega) (by omega) d
  · rw [Fo_mem hL, hlen, List.mem_map]
    constructor
    · intro hx
      have hm := (h.2 _).1 (num_mem (show x < R.length by omega))
      have hx' := idx_num h.nodup (show x < R.length by omega)
      by_cases e : num R x = 0
      · exact ⟨l.length, (h.2 _).2 (Nat.le_refl _), by rw [if_pos rfl, ← e]; exact hx'⟩
      · exact ⟨num R x - 1, (h.2 _).2 (by omega), by rw [if_neg (by omega), show num R x - 1 + 1 = num R x by omega]; exact hx'⟩
    · rintro ⟨p, hp, rfl⟩
      have : (if p = l.length then 0 else p + 1) ∈ R := (h.2 _).2 (by have := (h.2 p).1 hp; split <;> omega)
      have := (idx_of_mem this).1
      omega
theorem Fo_step {l R : List Nat} (h : IsMA l R) (hl : ∀ p, num l p < 256) {p : Nat} (hp : p < l.length) : num (Fo (turnL l R) (R.idxOf 0)) (R.idxOf p) = R.idxOf (p + 1) := by
  obtain ⟨a1, a2⟩ := idx_of_mem ((h.2 p).2 (by omega))
  rw [Fo_text h hl, num_map a1, a2, if_neg (by omega)]
end Sedge

/- Plain mathematics: going back, row by row. -/
namespace Sedge

/-- The rows that were met, from the whole text's on. -/
structure Walk (L : List Nat) (r : Nat) (A : List Nat) : Prop where
  ne : 0 < A.length
  first : num A 0 = r
  next : ∀ j, j + 1 < A.length → num A (j + 1) = num (Fo L r) (num A j)
  nz : ∀ j, j + 1 < A.length → num A j ≠ 0
  nd : A.Nodup
  le : ∀ i ∈ A, i ≤ L.length

section
variable {L : List Nat} {r : Nat} {A : List Nat}
theorem Walk.start (hr : r ≤ L.length) : Walk L r [r] := ⟨by simp, rfl, fun j hj => by simp at hj, fun j hj => by simp at hj, by simp, fun i hi => by simp at hi; omega⟩
theorem Walk.length_le (h : Walk L r A) : A.length ≤ L.length + 1 := by
  have := h.nd.length_le_of_subset (l₂ := List.range (L.length + 1)) (fun x hx => List.mem_range.2 (by have := h.le x hx; omega))
  rwa [List.length_range] at this
theorem Walk.step (h : Walk L r A) (hL : ∀ p, num L p < 256) (hr : r ≤ L.length) (hz : num A (A.length - 1) ≠ 0) : Walk L r (A ++ [num (Fo L r) (num A (A.length - 1))]) := by
  have h0 := h.ne
  have hlast := h.le _ (num_mem (show A.length - 1 < A.length by omega))
  have hle := Fo_le (r := r) hL hlast
  refine ⟨by simp, by rw [num_append_l h0]; exact h.first, fun j hj => ?_, fun j hj => ?_, ?_, fun i hi => ?_⟩
  · simp at hj
    by_cases c : j + 1 < A.length
    · rw [num_append_l c, num_append_l (by omega)]; exact h.next j c
    · have e : j = A.length - 1 := by omega
      subst e
      rw [num_append_r (by omega), num_append_l (by omega), show A.length - 1 + 1 - A.length = 0 by omega]; rfl
  · simp at hj
    rw [num_append_l (by omega)]
    by_cases c : j + 1 < A.length
    · exact h.nz j c
    · rw [show j = A.length - 1 by omega]; exact hz
  · rw [List.nodup_append]
    refine ⟨h.nd, by simp, fun a ha b hb e => ?_⟩
    simp at hb
    subst hb; subst e
    obtain ⟨x1, x2⟩ := idx_of_mem ha
    generalize A.idxOf (num (Fo L r) (num A (A.length - 1))) = x at x1 x2
    by_cases c : x = 0
    · subst c
      rw [h.first] at x2
      have hz0 : num (Fo L r) 0 = r := Fo_zero hL hr
      have := Fo_inj hL (Nat.zero_le _) hlast (hz0.trans x2)
      exact hz this.symm
    · have hn := h.next (x - 1) (by omega)
      rw [show x - 1 + 1 = x by omega, x2] at hn
      have := Fo_inj hL hlast (h.le _ (num_mem (show x - 1 < A.length by omega))) hn
      have y1 := idx_num h.nd (show A.length - 1 < A.length by omega)
      have y2 := idx_num h.nd (show x - 1 < A.length by omega)
      rw [this, y2] at y1
      omega
  · rcases List.mem_append.1 hi with hi | hi
    · exact h.le i hi
    · simp at hi; subst hi; exact hle

/-- The bytes that were met. -/
def met (L : List Nat) (r : Nat) (A : List Nat) : List Nat := (A.drop 1).map fun i => ah L r i - 1
theorem met_length : (met L r A).length = A.length - 1 := by simp [met]
theorem met_num {k : Nat} (h : k + 1 < A.length) : num (met L r A) k = ah L r (num A (k + 1)) - 1 := by
  unfold met
  rw [num_map (by simp; omega)]
  congr 2
  rw [num_eq (by simp; omega), num_eq h, List.getElem_drop]
  congr 1; omega
theorem met_push (h : 0 < A.length) (i : Nat) : met L r (A ++ [i]) = met L r A ++ [ah L r i - 1] := by
  unfold met
  rw [List.drop_append_of_le_length (by omega), List.map_append]; rfl

/-- Going back through a text's rows. -/
theorem Walk.text {l R : List Nat} (hR : IsMA l R) (hl : ∀ p, num l p < 256) (h : Walk (turnL l R) (R.idxOf 0) A) : A.length ≤ l.length + 1 ∧ ∀ j, j < A.length → num A j = R.idxOf j := by
  have hlen := turnL_length hR
  have hle := h.length_le
  rw [hlen] at hle
  refine ⟨hle, fun j => ?_⟩
  induction j with
  | zero => intro _; exact h.first
  | succ j ih =>
    intro hj
    rw [h.next j hj, ih (by omega)]
    exact Fo_step hR hl (by omega)
theorem Walk.back {l R : List Nat} (hR : IsMA l R) (hl : ∀ p, num l p < 256) (h : Walk (turnL l R) (R.idxOf 0) A) (hz : num A (A.length - 1) = 0) : met (turnL l R) (R.idxOf 0) A = l := by
  obtain ⟨h1, h2⟩ := h.text hR hl
  have h0 := h.ne
  have hn : A.length - 1 = l.length := by
    have := h2 (A.length - 1) (by omega)
    rw [hz, ← hR.idx_end] at this
    exact (hR.idx_inj (Nat.le_refl _) (by omega) this).symm
  apply List.ext_getElem
  · rw [met_length, hn]
  · intro k h3 h4
    rw [met_length] at h3
    rw [← num_eq (by rw [met_length]; exact h3), ← num_eq h4, met_num (by omega), h2 (k + 1) (by omega)]
    obtain ⟨a1, a2⟩ := idx_of_mem ((hR.2 (k + 1)).2 (by omega))
    rw [turn_ah hR a1, a2]
    simp [kp]

/-- All rows were met: they are a text's. -/
theorem Walk.valid (h : Walk L r A) (hL : ∀ p, num L p < 256) (hr : r ≤ L.length) (hz : num A (A.length - 1) = 0) (hfull : A.length = L.length + 1) : Tn (met L r A) L r := by
  have hml : (met L r A).length = L.length := by rw [met_length]; omega
  have hmemA : ∀ i, i ≤ L.length → i ∈ A := fun i hi => by
    by_cases c : i ∈ A
    · exact c
    · have h1 : (i :: A).Nodup := List.nodup_cons.2 ⟨c, h.nd⟩
      have := h1.length_le_of_subset (l₂ := List.range (L.length + 1)) (fun x hx => List.mem_range.2 (by
        rcases List.mem_cons.1 hx with rfl | hx
        · omega
        · have := h.le x hx; omega))
      rw [List.length_range, List.length_cons] at this
      omega
  have last : ∀ j, j < A.length → (num A j = 0 ↔ j = L.length) := fun j hj => by
    constructor
    · intro e
      by_cases c : j + 1 < A.length
      · exact absurd e (h.nz j c)
      · omega
    · intro e; subst e; rw [hfull] at hz; exact hz
  have key : ∀ m a b, a + m = L.length → b ≤ L.length → num A a < num A b → suf (met L r A) a b := by
    intro m
    induction m with
    | zero =>
      intro a b ha hb hlt
      have hb' : b < L.length := by
        by_cases c : b < L.length
        · exact c
        · have := (last b (by omega)).2 (by omega); omega
      have : a = (met L r A).length := by omega
      rw [this]
      exact suf_end (by omega)
    | succ m ih =>
      intro a b ha hb hlt
      have hb' : b < L.length := by
        by_cases c : b < L.length
        · exact c
        · have := (last b (by omega)).2 (by omega); omega
      have hq := Fo_lt (L := L) (r := r) hlt (by rw [Fo_length hL]; have := h.le _ (num_mem (show b < A.length by omega)); omega)
      rw [← h.next a (by omega), ← h.next b (by omega)] at hq
      have ne : ∀ j, 0 < j → j < A.length → num A j ≠ r := fun j hj hj' e => by
        rw [← h.first] at e
        have y1 := idx_num h.nd hj'
        have y2 := idx_num h.nd h.ne
        rw [e, y2] at y1; omega
      have pa := ah_pos (L := L) (ne (a + 1) (by omega) (by omega))
      have pb := ah_pos (L := L) (ne (b + 1) (by omega) (by omega))
      unfold suf
      rw [drop_num (show a < (met L r A).length by omega), drop_num (show b < (met L r A).length by omega), List.cons_lt_cons_iff, met_num (by omega), met_num (by omega)]
      rcases hq with c | ⟨c, d⟩
      · exact Or.inl (by omega)
      · exact Or.inr ⟨by omega, ih (a + 1) (b + 1) (by omega) (by omega) d⟩
  -- the places by their rows
  have hV : IsMA (met L r A) ((List.range (L.length + 1)).map fun i => A.idxOf i) := by
    refine ⟨List.pairwise_map.2 (List.Pairwise.imp_of_mem (fun {i j} hi hj hij => ?_) List.pairwise_lt_range), fun p => ?_⟩
    · have hi' := List.mem_range.1 hi
      have hj' := List.mem_range.1 hj
      obtain ⟨a1, a2⟩ := idx_of_mem (hmemA i (by omega))
      obtain ⟨b1, b2⟩ := idx_of_mem (hmemA j (by omega))
      exact key (L.length - A.idxOf i) _ _ (by omega) (by omega) (by rw [a2, b2]; exact hij)
    · rw [List.mem_map, hml]
      constructor
      · rintro ⟨i, hi, rfl⟩
        have := (idx_of_mem (hmemA i (by have := List.mem_range.1 hi; omega))).1
        omega
      · intro hp
        exact ⟨num A p, List.mem_range.2 (by have := h.le _ (num_mem (show p < A.length by omega)); omega), idx_num h.nd (by omega)⟩
  have hVn : ∀ i, i ≤ L.length → num ((List.range (L.length + 1)).map fun i => A.idxOf i) i = A.idxOf i := fun i hi => by
    rw [num_map (by simp; omega)]
    congr 1
    rw [num_eq (by simp; omega), List.getElem_range]
  have hr0 : ((List.range (L.length + 1)).map fun i => A.idxOf i).idxOf 0 = r := by
    have e : A.idxOf r = 0 := by rw [← h.first]; exact idx_num h.nd h.ne
    have := idx_num hV.nodup (show r < _ by rw [hV.length]; omega)
    rw [hVn r hr, e] at this
    exact this
  refine ⟨_, hV, ?_, hr0.symm⟩
  -- last is as it was
  have hl2 := turnL_length hV
  apply List.ext_getElem
  · rw [hl2, hml]
  · intro k h1 h2
    rw [← num_eq h1, ← num_eq h2]
    have hah : ∀ i, i ≤ L.length → ah (turnL (met L r A) ((List.range (L.length + 1)).map fun i => A.idxOf i)) r i = ah L r i := fun i hi => by
      have := turn_ah hV (show i < _ by rw [hV.length]; omega)
      rw [hr0, hVn i hi] at this
      rw [this]
      obtain ⟨a1, a2⟩ := idx_of_mem (hmemA i hi)
      unfold kp
      by_cases e : A.idxOf i = 0
      · rw [if_pos e]
        have : i = r := by rw [← a2, e, h.first]
        rw [this, ah_row]
      · rw [if_neg e, met_num (by omega), show A.idxOf i - 1 + 1 = A.idxOf i by omega, a2]
        have : i ≠ r := fun c => by
          rw [c, ← h.first] at e
          exact e (idx_num h.nd h.ne)
        have := ah_pos (L := L) this
        omega
    by_cases c : k < r
    · have := hah k (by omega)
      unfold ah at this
      rw [if_pos c, if_pos c] at this
      omega
    · have := hah (k + 1) (by omega)
      unfold ah at this
      rw [if_neg (by omega), if_pos (by omega), if_neg (by omega), if_pos (by omega), Nat.add_sub_cancel] at this
      omega
end

/-- In a sorted list a thing's number is how many are ahead of it. -/
theorem idx_count {R : Nat → Nat → Prop} [d : ∀ a b, Decidable (R a b)] (irr : ∀ x, ¬ R x x) (as : ∀ x y, R x y → ¬ R y x) : ∀ (F : List Nat), F.Pairwise R → ∀ x, x ∈ F → F.idxOf x = (F.filter fun y => decide (R y x)).length
  | [], _, x, h => by cases h
  | y :: F, hp, x, h => by
    rw [List.pairwise_cons] at hp
    by_cases e : y = x
    · subst e
      have hf : (F.filter fun z => decide (R z y)) = [] := List.filter_eq_nil_iff.2 fun z hz => by
        simp only [decide_eq_true_eq]; exact as _ _ (hp.1 z hz)
      rw [List.idxOf_cons_self, List.filter_cons_of_neg (by simp only [decide_eq_true_eq]; exact irr y), hf]
      rfl
    · have hx : x ∈ F := by rcases List.mem_cons.1 h with c | c; exact absurd c.symm e; exact c
      rw [List.idxOf_cons, show (y == x) = false from beq_eq_false_iff_ne.2 e, cond_false, List.filter_cons_of_pos (by simp only [decide_eq_true_eq]; exact hp.1 x hx), List.length_cons, idx_count irr as F hp.2 x hx]

/-- Which byte of last a row has. -/
def col (r i : Nat) : Nat := if i < r then i else i - 1
/-- How many bytes of last are ahead of one. -/
def before (L : List Nat) (j m : Nat) : Nat := ((List.range m).filter fun k => decide (num L k < num L j ∨ (num L k = num L j ∧ k < j))).length
theorem before_succ (L : List Nat) (j m : Nat) : before L j (m + 1) = before L j m + if num L m < num L j ∨ (num L m = num L j ∧ m < j) then 1 else 0 := by
  unfold before
  rw [List.range_succ, List.filter_append, List.length_append]
  congr 1
  by_cases c : num L m < num L j ∨ (num L m = num L j ∧ m < j)
  · rw [if_pos c, List.filter_cons_of_pos (by simpa using c)]; rfl
  · rw [if_neg c, List.filter_cons_of_neg (by simpa using c)]; rfl
theorem before_le (L : List Nat) (j m : Nat) : before L j m ≤ m := by
  unfold before
  have := List.length_filter_le (fun k => decide (num L k < num L j ∨ (num L k = num L j ∧ k < j))) (List.range m)
  rwa [List.length_range] at this
theorem ref_next {L : List Nat} {r i : Nat} (hL : ∀ p, num L p < 256) (hr : r ≤ L.length) (hi : i ≤ L.length) (hne : i ≠ r) : 1 + before L (col r i) L.length = (Fo L r).idxOf i := by
  have hm := Fo_mem (r := r) hL
  rw [idx_count (Qo_irr (L := L) (r := r)) Qo_as _ Fo_pairwise i ((hm i).2 hi)]
  have aci : ah L r i = num L (col r i) + 1 := by
    unfold ah col
    by_cases c : i < r
    · rw [if_pos c, if_pos c]
    · rw [if_neg c, if_pos (by omega), if_neg c]
  have row : ∀ m, ah L r (if m < r then m else m + 1) = num L m + 1 := fun m => by
    unfold ah
    by_cases c : m < r
    · rw [if_pos c, if_pos c]
    · rw [if_neg c, if_neg (by omega), if_pos (by omega), Nat.add_sub_cancel]
  have nd1 : ((Fo L r).filter fun y => decide (Qo L r y i)).Nodup := Fo_nodup.filter _
  have nd2 : (r :: ((List.range L.length).filter fun k => decide (num L k < num L (col r i) ∨ (num L k = num L (col r i) ∧ k < col r i))).map fun m => if m < r then m else m + 1).Nodup := by
    refine List.nodup_cons.2 ⟨fun h => ?_, ?_⟩
    · obtain ⟨m, _, e⟩ := List.mem_map.1 h
      by_cases c : m < r
      · rw [if_pos c] at e; omega
      · rw [if_neg c] at e; omega
    · refine List.Pairwise.map _ (fun a b (hab : a ≠ b) => ?_) (List.nodup_range.filter _)
      by_cases c : a < r <;> by_cases d : b < r <;> simp [c, d] <;> omega
  have sub : ∀ x, x ∈ ((Fo L r).filter fun y => decide (Qo L r y i)) ↔ x ∈ (r :: ((List.range L.length).filter fun k => decide (num L k < num L (col r i) ∨ (num L k = num L (col r i) ∧ k < col r i))).map fun m => if m < r then m else m + 1) := fun x => by
    rw [List.mem_filter, hm, List.mem_cons, List.mem_map]
    simp only [decide_eq_true_eq]
    unfold Qo
    rw [aci]
    constructor
    · rintro ⟨h1, h2⟩
      by_cases e : x = r
      · exact Or.inl e
      · refine Or.inr ⟨if x < r then x else x - 1, ?_, ?_⟩
        · rw [List.mem_filter, List.mem_range]
          simp only [decide_eq_true_eq]
          have := row (if x < r then x else x - 1)
          by_cases c : x < r
          · rw [if_pos c] at this ⊢
            rw [if_pos c] at this
            refine ⟨by omega, ?_⟩
            rw [this] at h2
            rcases h2 with h2 | ⟨h2, h3⟩
            · exact Or.inl (by omega)
            · refine Or.inr ⟨by omega, ?_⟩
              unfold col; split <;> omega
          · rw [if_neg c] at this ⊢
            rw [if_neg (by omega), show x - 1 + 1 = x by omega] at this
            refine ⟨by omega, ?_⟩
            rw [this] at h2
            rcases h2 with h2 | ⟨h2, h3⟩
            · exact Or.inl (by omega)
            · refine Or.inr ⟨by omega, ?_⟩
              unfold col; split <;> omega
        · by_cases c : x < r
          · rw [if_pos c, if_pos c]
          · rw [if_neg c, if_neg (by omega)]; omega
    · rintro (rfl | ⟨m, hm', rfl⟩)
      · exact ⟨hr, Or.inl (by rw [ah_row]; omega)⟩
      · rw [List.mem_filter, List.mem_range] at hm'
        simp only [decide_eq_true_eq] at hm'
        rw [row]
        refine ⟨by split <;> omega, ?_⟩
        rcases hm'.2 with h2 | ⟨h2, h3⟩
        · exact Or.inl (by omega)
        · refine Or.inr ⟨by omega, ?_⟩
          unfold col at h3
          by_cases c : m < r
          · rw [if_pos c]; split at h3 <;> omega
          · rw [if_neg c]; split at h3 <;> omega
  have l1 := nd1.length_le_of_subset (l₂ := r :: ((List.range L.length).filter fun k => decide (num L k < num L (col r i) ∨ (num L k = num L (col r i) ∧ k < col r i))).map fun m => if m < r then m else m + 1) (fun x hx => (sub x).1 hx)
  have l2 := nd2.length_le_of_subset (l₂ := (Fo L r).filter fun y => decide (Qo L r y i)) (fun x hx => (sub x).2 hx)
  rw [List.length_cons, List.length_map] at l1 l2
  unfold before
  omega
/-- Of a text's rows: from behind. -/
theorem ref_back {l R : List Nat} (h : IsMA l R) (hl : ∀ p, num l p < 256) {k : Nat} (hk : k < l.length) :
    R.idxOf (k + 1) ≠ R.idxOf 0 ∧ num (turnL l R) (col (R.idxOf 0) (R.idxOf (k + 1))) = num l k ∧ 1 + before (turnL l R) (col (R.idxOf 0) (R.idxOf (k + 1))) l.length = R.idxOf k := by
  have hne : R.idxOf (k + 1) ≠ R.idxOf 0 := fun e => by have := h.idx_inj (by omega) (Nat.zero_le _) e; omega
  obtain ⟨a1, a2⟩ := idx_of_mem ((h.2 (k + 1)).2 (by omega))
  have hL := turnL_lt h hl (by omega)
  have hlen := turnL_length h
  refine ⟨hne, ?_, ?_⟩
  · have := turn_ah h a1
    rw [a2] at this
    unfold ah kp at this
    unfold col
    rw [if_neg (by omega : ¬ k + 1 = 0), Nat.add_sub_cancel] at this
    by_cases c : R.idxOf (k + 1) < R.idxOf 0
    · rw [if_pos c] at this ⊢; omega
    · rw [if_neg c, if_pos (by omega)] at this
      rw [if_neg c]; omega
  · have h1 := ref_next hL (by rw [hlen]; exact idx0_le h) (show R.idxOf (k + 1) ≤ _ by rw [hlen]; have := h.length; omega) hne
    rw [hlen] at h1
    rw [h1, ← Fo_step h hl hk]
    obtain ⟨b1, _⟩ := idx_of_mem ((h.2 k).2 (by omega))
    exact idx_num Fo_nodup (by rw [Fo_length hL, hlen]; have := h.length; omega)
end Sedge

/- Plain mathematics: while the starts are put in, each finds room. -/
namespace Sedge

theorem Good.nodup {l S : List Nat} {lt1 lt : Nat → Nat → Prop} (G : Good l S lt1 lt) : S.Nodup :=
  List.Pairwise.imp (S := fun a b => a ≠ b) (fun {a b} (h : buck l a = buck l b → lt1 a b) (e : a = b) => G.irr1 a (by rw [← e] at h; exact h rfl)) G.srt
/-- While the starts are put in, each finds room. -/
theorem Good.f0_room {l S : List Nat} {lt1 lt : Nat → Nat → Prop} (G : Good l S lt1 lt) {k : Nat} (hk : k < S.length) : (f0 l S k (buck l (num S.reverse k))).length < room l.length (buck l) (buck l (num S.reverse k)) := by
  have hk' : k < S.reverse.length := by simpa using hk
  have nd : S.reverse.Nodup := List.pairwise_reverse.2 (List.Pairwise.imp (fun {a b} (h : a ≠ b) (e : b = a) => h e.symm) G.nodup)
  have hst := (G.mem _).1 (by have := num_mem hk'; rwa [List.mem_reverse] at this)
  refine room_lt (p := num S.reverse k) (List.Pairwise.filter _ (List.Pairwise.sublist (List.take_sublist k S.reverse) nd)) ?_ ?_ hst.1 rfl
  · intro p hp
    simp only [f0, List.mem_filter] at hp
    have := (G.mem p).1 (by rw [← List.mem_reverse]; exact List.mem_of_mem_take hp.1)
    exact ⟨this.1, by simpa using hp.2⟩
  · intro hp
    simp only [f0, List.mem_filter] at hp
    obtain ⟨j, hj, e⟩ := List.getElem_of_mem hp.1
    rw [List.getElem_take, num_eq hk'] at e
    have hj' : j < k := by simp at hj; omega
    have := List.pairwise_iff_getElem.1 nd j k (by omega) hk' hj'
    exact this e
end Sedge

/- Plain mathematics: how far ends agree; what is told by it of a text's parts. -/
namespace Sedge

/-- How many numbers two lists have in common, from the first on. -/
def lcp : List Nat → List Nat → Nat
  | x :: a, y :: b => if x = y then lcp a b + 1 else 0
  | _, _ => 0
theorem lcp_nil (a : List Nat) : lcp [] a = 0 := by cases a <;> rfl
theorem lcp_nil' (a : List Nat) : lcp a [] = 0 := by cases a <;> rfl
theorem lcp_cons (x y : Nat) (a b : List Nat) : lcp (x :: a) (y :: b) = if x = y then lcp a b + 1 else 0 := rfl
theorem lcp_comm : ∀ (a b : List Nat), lcp a b = lcp b a
  | [], b => by rw [lcp_nil, lcp_nil']
  | x :: a, [] => by rw [lcp_nil, lcp_nil']
  | x :: a, y :: b => by
    rw [lcp_cons, lcp_cons, lcp_comm a b]
    by_cases h : x = y
    · simp [h]
    · have h' : ¬ y = x := fun e => h e.symm
      simp [h, h']
theorem lcp_le_left : ∀ (a b : List Nat), lcp a b ≤ a.length
  | [], b => by rw [lcp_nil]; simp
  | x :: a, [] => by rw [lcp_nil']; simp
  | x :: a, y :: b => by
    rw [lcp_cons]; have := lcp_le_left a b
    split <;> simp <;> omega
theorem lcp_le_right (a b : List Nat) : lcp a b ≤ b.length := by rw [lcp_comm]; exact lcp_le_left b a
/-- Up to there they agree; and not behind it. -/
theorem lcp_eq_iff : ∀ (a b : List Nat) (k : Nat), (k ≤ lcp a b ↔ k ≤ a.length ∧ k ≤ b.length ∧ ∀ j, j < k → num a j = num b j)
  | a, b, 0 => by simp
  | [], b, k + 1 => by rw [lcp_nil]; simp
  | x :: a, [], k + 1 => by rw [lcp_nil']; simp
  | x :: a, y :: b, k + 1 => by
    rw [lcp_cons]
    have ih := lcp_eq_iff a b k
    have hs : ∀ (z : Nat) (l : List Nat) (j : Nat), num (z :: l) (j + 1) = num l j := fun z l j => by simp [num, List.getD]
    have h0 : ∀ (z : Nat) (l : List Nat), num (z :: l) 0 = z := fun z l => by simp [num, List.getD]
    by_cases h : x = y
    · rw [if_pos h]
      constructor
      · intro c
        obtain ⟨h1, h2, h3⟩ := ih.1 (by omega)
        refine ⟨by simpa using h1, by simpa using h2, fun j hj => ?_⟩
        cases j with
        | zero => rw [h0, h0]; exact h
        | succ j => rw [hs, hs]; exact h3 j (by omega)
      · rintro ⟨h1, h2, h3⟩
        have := ih.2 ⟨by simpa using h1, by simpa using h2, fun j hj => by have := h3 (j + 1) (by omega); rwa [hs, hs] at this⟩
        omega
    · rw [if_neg h]
      constructor
      · intro c; omega
      · rintro ⟨_, _, h3⟩
        have := h3 0 (by omega)
        rw [h0, h0] at this; exact absurd this h
theorem lcp_drop {a b : List Nat} {k : Nat} (h : k ≤ lcp a b) : lcp a b = k + lcp (a.drop k) (b.drop k) := by
  induction k generalizing a b with
  | zero => simp
  | succ k ih =>
    match a, b with
    | [], b => rw [lcp_nil] at h; omega
    | x :: a, [] => rw [lcp_nil'] at h; omega
    | x :: a, y :: b =>
      rw [lcp_cons] at h ⊢
      split at h
      · rename_i e
        rw [if_pos e, ih (by omega)]
        simp only [List.drop_succ_cons]; omega
      · omega
/-- What stands between two has as much in common with the greater one. -/
theorem lcp_between : ∀ (a b c : List Nat), a < b → b < c → lcp a c ≤ lcp b c
  | [], b, c, _, _ => by rw [lcp_nil]; exact Nat.zero_le _
  | x :: a, [], c, h, _ => absurd h (not_lt_nil _)
  | x :: a, y :: b, [], _, h => absurd h (not_lt_nil _)
  | x :: a, y :: b, z :: c, h, k => by
    rw [cons_lt] at h k
    rw [lcp_cons, lcp_cons]
    by_cases e : x = z
    · subst e
      have hy : y = x := by
        rcases h with h | ⟨h, _⟩ <;> rcases k with k | ⟨k, _⟩ <;> omega
      subst hy
      rw [if_pos rfl, if_pos rfl]
      rcases h with h | ⟨_, h⟩
      · omega
      · rcases k with k | ⟨_, k⟩
        · omega
        · have := lcp_between a b c h k; omega
    · rw [if_neg e]; exact Nat.zero_le _

/-- How far the i-th end in order agrees with the one ahead of it. -/
def cm (l o : List Nat) (i : Nat) : Nat := if i = 0 then 0 else lcp (l.drop (num o i)) (l.drop (num o (i - 1)))
theorem cm_le (l o : List Nat) (i : Nat) : cm l o i ≤ l.length - num o i := by
  unfold cm; split
  · omega
  · have := lcp_le_left (l.drop (num o i)) (l.drop (num o (i - 1))); rwa [List.length_drop] at this

section
variable {l o : List Nat}
theorem IsSA.num_lt (h : IsSA l o) {i : Nat} (hi : i < o.length) : num o i < l.length := (h.2 _).1 (num_mem hi)
theorem IsSA.lt (h : IsSA l o) {i j : Nat} (hij : i < j) (hj : j < o.length) : suf l (num o i) (num o j) := by
  have := List.pairwise_iff_getElem.1 h.1 i j (by omega) hj hij
  rwa [← num_eq (by omega), ← num_eq hj] at this
/-- The rank of a place. -/
def rank (o : List Nat) (p : Nat) : Nat := o.idxOf p
theorem IsSA.rank (h : IsSA l o) {p : Nat} (hp : p < l.length) : rank o p < o.length ∧ num o (rank o p) = p := idx_of_mem ((h.2 p).2 hp)
theorem IsSA.rank_lt (h : IsSA l o) {p q : Nat} (hp : p < l.length) (hq : q < l.length) (hs : suf l p q) : Sedge.rank o p < Sedge.rank o q := by
  obtain ⟨a1, a2⟩ := h.rank hp
  obtain ⟨b1, b2⟩ := h.rank hq
  rcases Nat.lt_trichotomy (Sedge.rank o p) (Sedge.rank o q) with c | c | c
  · exact c
  · rw [← a2, ← b2, c] at hs; exact absurd hs (lt_irr _)
  · have := h.lt c a1
    rw [a2, b2] at this; exact absurd hs (lt_as this)
theorem lcp_suc {p q : Nat} (hp : p < l.length) (hq : q < l.length) (h : 0 < lcp (l.drop p) (l.drop q)) : lcp (l.drop (p + 1)) (l.drop (q + 1)) = lcp (l.drop p) (l.drop q) - 1 ∧ num l p = num l q := by
  rw [drop_num hp, drop_num hq, lcp_cons] at h ⊢
  split at h
  · rename_i e; rw [if_pos e]; exact ⟨by omega, e⟩
  · omega
/-- An end without its first number has at most one less in common with the one ahead of it. -/
theorem kasai (h : IsSA l o) {p : Nat} (hp : p + 1 < l.length) : cm l o (rank o p) - 1 ≤ cm l o (rank o (p + 1)) := by
  by_cases h1 : 1 < cm l o (rank o p)
  · obtain ⟨a1, a2⟩ := h.rank (show p < l.length by omega)
    obtain ⟨b1, b2⟩ := h.rank hp
    unfold cm at h1 ⊢
    rw [a2] at h1 ⊢
    rw [b2]
    by_cases r0 : rank o p = 0
    · rw [if_pos r0] at h1; omega
    · rw [if_neg r0] at h1 ⊢
      have hq := h.num_lt (show rank o p - 1 < o.length by omega)
      have hs := h.lt (show rank o p - 1 < rank o p by omega) a1
      rw [a2] at hs
      generalize hqe : num o (rank o p - 1) = q at hq hs h1 ⊢
      obtain ⟨c1, c2⟩ := lcp_suc (show p < l.length by omega) hq (by omega)
      have hq1 : q + 1 < l.length := by
        by_cases e : q + 1 < l.length
        · exact e
        · rw [drop_last (show l.length ≤ q + 1 by omega), lcp_nil'] at c1; omega
      have hs1 : suf l (q + 1) (p + 1) := by
        unfold suf at hs ⊢
        rw [drop_num hq, drop_num (show p < l.length by omega), cons_lt] at hs
        rcases hs with hs | ⟨_, hs⟩
        · omega
        · exact hs
      have hr := h.rank_lt hq1 hp hs1
      rw [if_neg (by omega)]
      obtain ⟨d1, d2⟩ := h.rank hq1
      by_cases e : rank o (q + 1) = rank o (p + 1) - 1
      · rw [← e, d2, c1]; exact Nat.le_refl _
      · have x1 := h.lt (show rank o (q + 1) < rank o (p + 1) - 1 by omega) (by omega)
        have x2 := h.lt (show rank o (p + 1) - 1 < rank o (p + 1) by omega) b1
        rw [d2] at x1
        rw [b2] at x2
        have := lcp_between _ _ _ x1 x2
        rw [lcp_comm (l.drop (p + 1)) (l.drop (num o (rank o (p + 1) - 1)))]
        rw [lcp_comm (l.drop (q + 1)) (l.drop (p + 1)), c1] at this
        exact this
  · omega

/-- How many parts the first k ends in order bring. -/
def brings (l o : List Nat) (i : Nat) : Nat := l.length - num o i - cm l o i
def many (l o : List Nat) : Nat → Nat
  | 0 => 0
  | k + 1 => many l o k + brings l o k
theorem many_mono (l o : List Nat) {a b : Nat} (h : a ≤ b) : many l o a ≤ many l o b := by
  induction b with
  | zero => have : a = 0 := by omega
            subst this; exact Nat.le_refl _
  | succ b ih =>
    by_cases e : a = b + 1
    · subst e; exact Nat.le_refl _
    · have := ih (by omega); simp only [many]; omega
theorem many_le (l o : List Nat) (k : Nat) : many l o k ≤ k * l.length := by
  induction k with
  | zero => simp [many]
  | succ k ih =>
    simp only [many, brings, Nat.succ_mul]; omega
theorem brings_int {i : Nat} (h : num o i ≤ l.length) : ((brings l o i : Nat) : Int) = (l.length : Int) - num o i - cm l o i := by
  have := cm_le l o i; unfold brings; omega
end
end Sedge

/- Plain mathematics: the different parts in their order. -/
namespace Sedge

theorem take_lt {n n' : Nat} : ∀ (x : List Nat), n < n' → n' ≤ x.length → x.take n < x.take n' := by
  intro x
  induction x generalizing n n' with
  | nil => intro h k; simp at k; omega
  | cons a x ih =>
    intro h k
    cases n' with
    | zero => omega
    | succ n' =>
      cases n with
      | zero => exact List.nil_lt_cons a _
      | succ n =>
        simp only [List.take_succ_cons, List.cons_lt_cons_iff]
        have k' : n' ≤ x.length := by simpa using k
        exact Or.inr ⟨trivial, ih (Nat.lt_of_succ_lt_succ h) k'⟩

theorem take_lt_take : ∀ (x y : List Nat) (n n' : Nat), x < y → lcp x y < n' → x.take n < y.take n'
  | [], [], _, _, h, _ => by simp at h
  | [], b :: bs, n, n', _, k => by
    cases n' with
    | zero => omega
    | succ n' => simp
  | a :: as, [], _, _, h, _ => by simp at h
  | a :: as, b :: bs, n, n', h, k => by
    cases n' with
    | zero => omega
    | succ n' =>
      cases n with
      | zero => simp
      | succ n =>
        simp only [List.take_succ_cons, List.cons_lt_cons_iff] at h ⊢
        rcases h with h | ⟨e, h⟩
        · exact Or.inl h
        · rw [lcp_cons, if_pos e] at k
          exact Or.inr ⟨e, take_lt_take as bs n n' h (by omega)⟩

theorem take_of_lcp : ∀ (x y : List Nat) (m : Nat), m ≤ lcp x y → x.take m = y.take m
  | [], y, m, h => by rw [lcp_nil] at h; have : m = 0 := by omega
                      subst this; simp
  | a :: as, [], m, h => by rw [lcp_nil'] at h; have : m = 0 := by omega
                            subst this; simp
  | a :: as, b :: bs, m, h => by
    cases m with
    | zero => simp
    | succ m =>
      rw [lcp_cons] at h
      split at h
      · rename_i e
        simp only [List.take_succ_cons]
        rw [e, take_of_lcp as bs m (by omega)]
      · omega

section
variable {l o : List Nat}
theorem IsSA.lcp_cm (h : IsSA l o) {i j : Nat} (hij : i < j) (hj : j < o.length) : lcp (l.drop (num o i)) (l.drop (num o j)) ≤ cm l o j := by
  unfold cm
  rw [if_neg (by omega)]
  by_cases e : i = j - 1
  · rw [e, lcp_comm]; exact Nat.le_refl _
  · rw [lcp_comm (l.drop (num o j))]
    exact lcp_between _ _ _ (h.lt (show i < j - 1 by omega) (by omega)) (h.lt (show j - 1 < j by omega) hj)

/-- Of two places in the table the later one's part is greater. -/
theorem IsSA.part_lt (h : IsSA l o) {i j a b : Nat} (hj : j < o.length) (hij : i < j ∨ (i = j ∧ a < b)) (hb : cm l o j + b + 1 ≤ l.length - num o j) :
    (l.drop (num o i)).take (cm l o i + a + 1) < (l.drop (num o j)).take (cm l o j + b + 1) := by
  rcases hij with c | ⟨rfl, c⟩
  · have := h.lcp_cm c hj
    exact take_lt_take _ _ _ _ (h.lt c hj) (by omega)
  · exact take_lt _ (by omega) (by simpa using hb)

theorem many_at {n m : Nat} (h : n < many l o m) : ∃ i, i < m ∧ many l o i ≤ n ∧ n < many l o (i + 1) := by
  induction m with
  | zero => simp [many] at h
  | succ m ih =>
    by_cases c : n < many l o m
    · obtain ⟨i, h1, h2, h3⟩ := ih c
      exact ⟨i, by omega, h2, h3⟩
    · exact ⟨m, by omega, by omega, h⟩

theorem first_with (p m : Nat) (h0 : 0 < m) : ∀ i, (l.drop (num o i)).take m = (l.drop p).take m → m ≤ l.length - num o i → ∃ j, j ≤ i ∧ (l.drop (num o j)).take m = (l.drop p).take m ∧ m ≤ l.length - num o j ∧ cm l o j < m := by
  intro i
  induction i with
  | zero => intro h k; exact ⟨0, by omega, h, k, by simp [cm]; omega⟩
  | succ i ih =>
    intro h k
    by_cases c : cm l o (i + 1) < m
    · exact ⟨i + 1, by omega, h, k, c⟩
    · have e : m ≤ lcp (l.drop (num o (i + 1))) (l.drop (num o i)) := by
        have : cm l o (i + 1) = lcp (l.drop (num o (i + 1))) (l.drop (num o i)) := by simp [cm]
        omega
      have e1 := take_of_lcp _ _ m e
      have e2 := lcp_le_right (l.drop (num o (i + 1))) (l.drop (num o i))
      rw [List.length_drop] at e2
      obtain ⟨j, h1, h2, h3, h4⟩ := ih (by rw [← e1]; exact h) (by omega)
      exact ⟨j, by omega, h2, h3, h4⟩

/-- Whichever part one takes is told. -/
theorem IsSA.told (h : IsSA l o) {p m : Nat} (hm : 0 < m) (hp : p + m ≤ l.length) : ∃ i a, i < o.length ∧ (l.drop p).take m = (l.drop (num o i)).take (cm l o i + a + 1) ∧ cm l o i + a + 1 ≤ l.length - num o i ∧ a < brings l o i := by
  obtain ⟨h1, h2⟩ := h.rank (show p < l.length by omega)
  obtain ⟨j, g1, g2, g3, g4⟩ := first_with (l := l) (o := o) p m hm (Sedge.rank o p) (by rw [h2]) (by rw [h2]; omega)
  refine ⟨j, m - cm l o j - 1, by omega, ?_, by omega, ?_⟩
  · rw [show cm l o j + (m - cm l o j - 1) + 1 = m by omega]; exact g2.symm
  · unfold brings; omega

theorem IsSA.some (h : IsSA l o) (h0 : 0 < l.length) : 0 < many l o o.length := by
  have hl := h.length
  have h1 := h.num_lt (i := 0) (by omega)
  have h2 : many l o 1 ≤ many l o o.length := many_mono l o (by omega)
  have h3 : many l o 1 = many l o 0 + brings l o 0 := rfl
  have h4 : brings l o 0 = l.length - num o 0 - 0 := by simp [brings, cm]
  omega
end
end Sedge
