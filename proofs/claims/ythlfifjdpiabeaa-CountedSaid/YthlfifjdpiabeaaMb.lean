/- Plain mathematics: the two passes of inducing, and what they leave. -/
import Derived.Test.YthlfifjdpiabeaaMa
namespace Sedge

/-- What the two passes of inducing lean on: S: the starts as they are handed over; lt1: the order of the first pass, lt: of the second. -/
structure Good (l S : List Nat) (lt1 lt : Nat → Nat → Prop) : Prop where
  irr1 : ∀ x, ¬ lt1 x x
  irr : ∀ x, ¬ lt x x
  bk1 : ∀ p q, p < l.length → q < l.length → buck l p < buck l q → lt1 p q
  bk : ∀ p q, p < l.length → q < l.length → buck l p < buck l q → lt p q
  up : ∀ p q, slope l p = 1 → slope l q = 1 → buck l p = buck l q → lt1 (p + 1) (q + 1) → lt1 p q
  down : ∀ p q, p + 1 < l.length → q + 1 < l.length → slope l p = 0 → slope l q = 0 → buck l p = buck l q → lt (p + 1) (q + 1) → lt p q
  last : ∀ p, p + 1 < l.length → slope l p = 0 → buck l (l.length - 1) = buck l p → lt (l.length - 1) p
  one : ∀ p q, slope l p = 1 → slope l q = 1 → lt1 p q → lt p q
  mem : ∀ p, p ∈ S ↔ start l p
  srt : S.Pairwise (fun a b => buck l a = buck l b → lt1 a b)

def D1 (l : List Nat) (p : Nat) : Prop := slope l p = 1
def D2 (l : List Nat) (p : Nat) : Prop := p + 1 < l.length ∧ slope l p = 0
def seed2 (l : List Nat) (p : Nat) : Prop := slope l p = 1 ∨ p + 1 = l.length

section
variable {l S : List Nat} {lt1 lt : Nat → Nat → Prop}

theorem Good.pass1 (G : Good l S lt1 lt) : Pass l.length (buck l) (D1 l) (start l) (fun x y => lt1 y x) (fun c b => b < c) where
  irr := G.irr1
  step p q hp hq hb hr := G.up q p hq hp hb.symm hr
  first s p hs hp hb := by have := (buck_eq hb).2; have a := hs.2.2.1; unfold D1 at hp; omega
  disj p hs hp := by have a := hs.2.2.1; unfold D1 at hp; omega
  ltD p hp := slope_lt hp
  ltS p hs := hs.1
  up p hp := by
    by_cases c : slope l (p + 1) = 1
    · exact .inr c
    · exact .inl ⟨slope_lt hp, by omega, by have := slope_le l (p + 1); omega, hp⟩
  bkR x y hx hy h := G.bk1 y x hy hx h
  ndn p hp h := by have := buck_rise hp; omega
  dnb b h := by omega

theorem Good.pass2 (G : Good l S lt1 lt) : Pass l.length (buck l) (D2 l) (seed2 l) lt (fun c b => c < b) where
  irr := G.irr
  step p q hp hq hb hr := G.down p q hp.1 hq.1 hp.2 hq.2 hb hr
  first s p hs hp hb := by
    rcases hs with hs | hs
    · have := (buck_eq hb).2; have a := hp.2; omega
    · have : s = l.length - 1 := by omega
      subst this; exact G.last p hp.1 hp.2 hb
  disj p hs hp := by
    have a := hp.1; have b := hp.2
    rcases hs with hs | hs <;> omega
  ltD p hp := hp.1
  ltS p hs := by
    rcases hs with hs | hs
    · have := slope_lt hs; omega
    · omega
  up p hp := by
    have a := hp.1
    by_cases c : slope l (p + 1) = 1
    · exact .inl (.inl c)
    · by_cases d : p + 1 + 1 = l.length
      · exact .inl (.inr d)
      · exact .inr ⟨by omega, by have := slope_le l (p + 1); omega⟩
  bkR x y hx hy h := G.bk x y hx hy h
  ndn p hp h := by have := buck_fall hp.1 hp.2; omega
  dnb b h := by omega

/-- The first pass: its state ahead of bucket b - 1 (b buckets are left to do). -/
def Inv1 (l : List Nat) (lt1 : Nat → Nat → Prop) (f : Nat → List Nat) (b i : Nat) : Prop :=
  Inv l.length (buck l) (D1 l) (start l) (fun x y => lt1 y x) (fun c b => b < c) f b i
def Inv2 (l : List Nat) (lt : Nat → Nat → Prop) (f : Nat → List Nat) (b i : Nat) : Prop :=
  Inv l.length (buck l) (D2 l) (seed2 l) lt (fun c b => c < b) f b i

/-- The buckets behind t steps of putting the starts in, the last one first. -/
def f0 (l S : List Nat) (t : Nat) : Nat → List Nat := fun c => (S.reverse.take t).filter fun p => buck l p == c
theorem f0_zero (l S : List Nat) : f0 l S 0 = fun _ => [] := by funext c; simp [f0]
theorem f0_succ {l S : List Nat} {t : Nat} (h : t < S.length) : f0 l S (t + 1) = push (f0 l S t) (buck l (num S.reverse t)) (num S.reverse t) := by
  have h' : t < S.reverse.length := by simpa using h
  have e : S.reverse[t] = num S.reverse t := by simp [num, List.getD, h]
  funext c
  unfold f0 push
  rw [List.take_succ_eq_append_getElem h', List.filter_append, e]
  by_cases k : buck l (num S.reverse t) = c
  · simp [k]
  · have k' : ¬ c = buck l (num S.reverse t) := fun e => k e.symm
    simp [k, k']

theorem Good.start1 (G : Good l S lt1 lt) {b : Nat} (hb : ∀ p, p < l.length → buck l p ≤ b) : Inv1 l lt1 (f0 l S S.length) b 0 := by
  have e : S.reverse.take S.length = S.reverse := by rw [← List.length_reverse, List.take_length]
  refine ⟨?_, ?_, ?_⟩
  · intro c p hp
    simp only [f0, e, List.mem_filter, List.mem_reverse, G.mem, beq_iff_eq] at hp
    exact ⟨hp.1.1, hp.2⟩
  · intro c
    simp only [f0, e]
    have a : (S.reverse.filter fun p => buck l p == c).Pairwise (fun a b => buck l b = buck l a → lt1 b a) := (List.pairwise_reverse.2 G.srt).filter _
    refine a.imp_of_mem ?_
    intro x y hx hy h
    simp only [List.mem_filter, beq_iff_eq] at hx hy
    exact h (by omega)
  · intro p
    simp only [f0, e, List.mem_filter, List.mem_reverse, G.mem, beq_self_eq_true, and_true, Proc, List.take_zero, List.not_mem_nil, and_false, or_false]
    constructor
    · exact .inl
    · rintro (s | ⟨d, ⟨a, _⟩, c⟩)
      · exact s
      · have := hb (p + 1) (slope_lt d); omega

/-- What the first pass leaves. -/
structure Fin1 (l : List Nat) (lt1 : Nat → Nat → Prop) (f : Nat → List Nat) : Prop where
  mem : ∀ c, ∀ p ∈ f c, p < l.length ∧ buck l p = c
  pw : ∀ c, (f c).Pairwise (fun x y => lt1 y x)
  iff : ∀ p, slope l p = 1 → p ∈ f (buck l p)

theorem Good.fin1 (G : Good l S lt1 lt) {f : Nat → List Nat} (h : Inv1 l lt1 f 0 (f 0).length) : Fin1 l lt1 f := by
  refine ⟨h.mem, h.pw, fun p hp => ?_⟩
  have key : ∀ k p, p + k = l.length → (start l p ∨ D1 l p) → p ∈ f (buck l p) := by
    intro k
    induction k with
    | zero => intro p hp hs; rcases hs with s | d
              · exact (h.iff p).2 (.inl s)
              · have := G.pass1.ltD p d; omega
    | succ k ih =>
      intro p hp hs
      rcases hs with s | d
      · exact (h.iff p).2 (.inl s)
      · have a := ih (p + 1) (by omega) (G.pass1.up p d)
        refine (h.iff p).2 (.inr ⟨d, a, ?_⟩)
        by_cases c : buck l (p + 1) = 0
        · exact .inr ⟨c, by rw [List.take_length, ← c]; exact a⟩
        · exact .inl (by omega)
  have := slope_lt hp
  exact key (l.length - p) p (by omega) (.inr hp)

/-- The buckets ahead of the second pass: the rising ones turned, the falling ones empty, but for the last place. -/
def g0 (f : Nat → List Nat) : Nat → List Nat := fun c => if c % 2 = 1 then (f c).reverse else []

theorem Good.start2 (G : Good l S lt1 lt) (hn : 0 < l.length) {f : Nat → List Nat} (h : Fin1 l lt1 f) : Inv2 l lt (push (g0 f) (buck l (l.length - 1)) (l.length - 1)) 0 0 := by
  have sl : slope l (l.length - 1) = 0 := slope_last (by omega)
  have odd : ∀ p, buck l p % 2 = slope l p := fun p => by have := slope_le l p; unfold buck; omega
  have mem0 : ∀ c, ∀ p ∈ g0 f c, p < l.length ∧ buck l p = c ∧ slope l p = 1 := by
    intro c p hp
    unfold g0 at hp
    split at hp
    · rw [List.mem_reverse] at hp
      have a := h.mem c p hp
      exact ⟨a.1, a.2, by rw [← odd, a.2]; assumption⟩
    · simp at hp
  refine ⟨?_, ?_, ?_⟩
  · intro c p hp
    rw [mem_push] at hp
    rcases hp with hp | ⟨rfl, rfl⟩
    · exact ⟨(mem0 c p hp).1, (mem0 c p hp).2.1⟩
    · exact ⟨by omega, rfl⟩
  · intro c
    have base : (g0 f c).Pairwise lt := by
      by_cases k : c % 2 = 1
      · have a : (g0 f c).Pairwise lt1 := by
          unfold g0; rw [if_pos k]
          exact List.pairwise_reverse.2 (h.pw c)
        exact a.imp_of_mem fun {x y} hx hy hr => G.one x y (mem0 c x hx).2.2 (mem0 c y hy).2.2 hr
      · unfold g0; rw [if_neg k]; simp
    unfold push
    split
    · rename_i e
      rw [List.pairwise_append]
      refine ⟨base, by simp, ?_⟩
      intro y hy x hx
      have a := mem0 c y hy
      have := odd y
      have := odd (l.length - 1)
      rw [a.2.1, e] at *
      omega
    · exact base
  · intro p
    rw [mem_push]
    constructor
    · rintro (a | ⟨a, b⟩)
      · exact .inl (.inl (mem0 _ p a).2.2)
      · exact .inl (.inr (by omega))
    · rintro ((a | a) | ⟨_, _, c | ⟨_, c⟩⟩)
      · refine .inl ?_
        unfold g0; rw [if_pos (by rw [odd]; exact a), List.mem_reverse]
        exact h.iff p a
      · have : p = l.length - 1 := by omega
        subst this; exact .inr ⟨rfl, rfl⟩
      · omega
      · simp at c

/-- What the second pass leaves. -/
structure Fin2 (l : List Nat) (lt : Nat → Nat → Prop) (f : Nat → List Nat) : Prop where
  mem : ∀ c, ∀ p ∈ f c, p < l.length ∧ buck l p = c
  pw : ∀ c, (f c).Pairwise lt
  iff : ∀ p, p < l.length → p ∈ f (buck l p)

theorem Good.fin2 (G : Good l S lt1 lt) {f : Nat → List Nat} {b : Nat} (h : Inv2 l lt f b (f b).length) (hb : ∀ p, p < l.length → buck l p ≤ b) : Fin2 l lt f := by
  refine ⟨h.mem, h.pw, fun p hp => ?_⟩
  have key : ∀ k p, p + k = l.length → (seed2 l p ∨ D2 l p) → p ∈ f (buck l p) := by
    intro k
    induction k with
    | zero => intro p hp hs; rcases hs with s | d
              · exact (h.iff p).2 (.inl s)
              · have := G.pass2.ltD p d; omega
    | succ k ih =>
      intro p hp hs
      rcases hs with s | d
      · exact (h.iff p).2 (.inl s)
      · have a := ih (p + 1) (by omega) (G.pass2.up p d)
        refine (h.iff p).2 (.inr ⟨d, a, ?_⟩)
        have hb' := hb (p + 1) d.1
        by_cases c : buck l (p + 1) = b
        · exact .inr ⟨c, by rw [List.take_length, ← c]; exact a⟩
        · exact .inl (by omega)
  refine key (l.length - p) p (by omega) ?_
  have a := slope_le l p
  by_cases c : slope l p = 1
  · exact .inl (.inl c)
  · by_cases d : p + 1 = l.length
    · exact .inl (.inr d)
    · exact .inr ⟨by omega, by omega⟩

/-- All buckets, one behind the other. -/
def flat (g : Nat → List Nat) (K : Nat) : List Nat := (List.range K).flatMap g

theorem Good.flat (G : Good l S lt1 lt) {g : Nat → List Nat} (h : Fin2 l lt g) {K : Nat} (hK : ∀ p, p < l.length → buck l p < K) :
    (flat g K).Pairwise lt ∧ ∀ p, p ∈ flat g K ↔ p < l.length := by
  constructor
  · unfold Sedge.flat
    rw [List.pairwise_flatMap]
    refine ⟨fun c _ => h.pw c, ?_⟩
    refine List.Pairwise.imp ?_ (List.pairwise_lt_range)
    intro a b hab x hx y hy
    have hx' := h.mem a x hx
    have hy' := h.mem b y hy
    exact G.bk x y hx'.1 hy'.1 (by omega)
  · intro p
    unfold Sedge.flat
    rw [List.mem_flatMap]
    constructor
    · rintro ⟨c, _, hp⟩; exact (h.mem c p hp).1
    · intro hp; exact ⟨buck l p, List.mem_range.2 (hK p hp), h.iff p hp⟩
theorem Fin2.room {f : Nat → List Nat} (h : Fin2 l lt f) (irr : ∀ x, ¬ lt x x) (c : Nat) : (f c).length = room l.length (buck l) c :=
  room_full (List.Pairwise.imp (S := fun a b => a ≠ b) (fun {a b} (hr : lt a b) (e : a = b) => irr a (by rw [← e] at hr; exact hr)) (h.pw c)) (h.mem c) (fun p hp e => by rw [← e]; exact h.iff p hp)
end

/-- The order of ends is fit for both passes. -/
def suf (l : List Nat) (p q : Nat) : Prop := l.drop p < l.drop q
theorem good_suf {l S : List Nat} (hm : ∀ p, p ∈ S ↔ start l p) (hs : S.Pairwise (suf l)) : Good l S (suf l) (suf l) where
  irr1 x := lt_irr _
  irr x := lt_irr _
  bk1 p q hp hq h := buck_lt hp hq h
  bk p q hp hq h := buck_lt hp hq h
  up p q hp hq hb h := (buck_step (by have := slope_lt hp; omega) (by have := slope_lt hq; omega) hb).2 h
  down p q hp hq _ _ hb h := (buck_step (by omega) (by omega) hb).2 h
  last p hp _ hb := by
    refine (buck_step (by omega) (by omega) hb).2 ?_
    rw [drop_last (by omega), drop_num hp]; exact nil_lt _ _
  one p q _ _ h := h
  mem := hm
  srt := List.Pairwise.imp (fun {a b} (h : suf l a b) (_ : buck l a = buck l b) => h) hs
end Sedge
